/-
  Layer 5's laws: the items of a script, in memory; great.
-/
import Derived.Test.YtjdhedebkpclmaaScAlive
import Derived.Deep.DeepCutAuto
namespace Go.Proofs.Ytjdhedebkpclmaa
open Go.RowKit Mem Sc
structure It where
  kind : Int
  size : Int
  n : Int
  name : List UInt8
  text : ByteArray
def It.ok (x : It) : Prop := x.name.length = 32 ∧ x.text.size ≤ 4611686018427387904
def itemC (x : It) : List Value := .int .i64 x.kind :: .int .i64 x.size :: .int .i64 x.n :: (Lib.byteCells x.name ++ [.string x.text])
theorem itemC_length {x : It} (h : x.name.length = 32) : (itemC x).length = 36 := by simp [itemC, Lib.byteCells_length, h]
def itemA (x : It) : Array Value := (itemC x).toArray
theorem itemA_size {x : It} (h : x.name.length = 32) : (itemA x).size = 36 := by show (itemC x).toArray.size = 36; rw [List.size_toArray]; exact itemC_length h
theorem itemA_one (x : It) : (itemA x).all (·.oneCell') = true := by
  rw [Array.all_eq_true_iff_forall_mem]
  intro v hv
  simp only [itemA, itemC, List.mem_toArray, List.mem_cons, List.mem_append] at hv
  rcases hv with rfl | rfl | rfl | hv | hv
  · rfl
  · rfl
  · rfl
  · exact Lib.byteCells_one _ v hv
  · simp at hv; subst hv; rfl
theorem iinfo : (Try.prog.info? 32).map (·.size) = some 36 := by kernel_rfl
def i0 : Array Value := itemA ⟨0, 0, 0, List.replicate 32 0, ⟨#[]⟩⟩
theorem i0_new (w : World) (t : TypeId) : Has (w.alloc (.cells #[.int .i64 0, .int .i64 0, .int .i64 0, .int .u8 0, .int .u8 0, .int .u8 0, .int .u8 0, .int .u8 0, .int .u8 0, .int .u8 0, .int .u8 0, .int .u8 0, .int .u8 0, .int .u8 0, .int .u8 0, .int .u8 0, .int .u8 0, .int .u8 0, .int .u8 0, .int .u8 0, .int .u8 0, .int .u8 0, .int .u8 0, .int .u8 0, .int .u8 0, .int .u8 0, .int .u8 0, .int .u8 0, .int .u8 0, .int .u8 0, .int .u8 0, .int .u8 0, .int .u8 0, .int .u8 0, .int .u8 0, .string ⟨#[]⟩] t)) w.heap.size i0 t := Has.new i0 t
theorem i0_size : i0.size = 36 := rfl
section
variable {w : World} {ops : Array Oper} {rest : List Oper} {o : Oper} {a : Act} {Q : Exit → Act → World → Prop}
theorem it_load_mid (hgd : o.guard = none) (x : Operand) (ho : o.op = .load 32 x) (g off : Nat) (hx : a.eval x = .pointer (some ⟨g, off, none⟩)) (it : It) (hg : w.rangeAt g off (itemC it)) (hs : (itemC it).length = 36)
    (h : wpList Try.prog ops Q rest (a.put o.dst (.agg (itemA it))) w) : wpList Try.prog ops Q (o :: rest) a w :=
  wpList_load_mid hgd 32 x ho g off hx (itemC it) _ hg Try.underlying32 rfl (iinfo.trans (by rw [hs])) h
theorem it_store (hgd : o.guard = none) (x y : Operand) (ho : o.op = .store 32 x y) (g : Nat) (it : It) (hx : a.eval x = .pointer (some ⟨g, 0, none⟩)) (hy : a.eval y = .agg (itemA it)) (hs' : (itemA it).size = 36) (cs : Array Value) (hg : Has w g cs 32) (hs : cs.size = 36)
    (h : wpList Try.prog ops Q rest (a.put o.dst undef) (w.setRow g (itemA it))) : wpList Try.prog ops Q (o :: rest) a w :=
  wpList_store_row hgd 32 x y ho g (itemA it) hx hy 32 cs hg.out (iinfo.trans (by rw [hs'])) (by rw [hs, hs']) (itemA_one it) h
end
/-- items lie where a slice says -/
def ItemsAt (w : World) (a : Option Addr) (its : List It) : Prop :=
  0 < its.length → ∃ ab ao, a = some ⟨ab, ao, none⟩ ∧ ∀ i (hi : i < its.length), its[i].ok ∧ w.rangeAt ab (ao + i * 36) (itemC its[i])
theorem range_block {w : World} {b o : Nat} {cs : List Value} (h : w.rangeAt b o cs) (h0 : 0 < cs.length) : b < w.heap.size := block_lt_of_cell (h 0 (cs[0]'h0) (List.getElem?_eq_getElem h0))
theorem range_below {w w' : World} {b o : Nat} {cs : List Value} (h : w.rangeAt b o cs) (hb : Below w.heap.size w w') (h0 : 0 < cs.length) : w'.rangeAt b o cs := fun j u hu => by
  have hlt := range_block h h0
  exact (hb.cell (p := ⟨b, o + j, none⟩) hlt).trans (h j u hu)
theorem ItemsAt.below {w w' : World} {a : Option Addr} {its : List It} (h : ItemsAt w a its) (hb : Below w.heap.size w w') : ItemsAt w' a its := fun h0 => by
  obtain ⟨ab, ao, ha, hc⟩ := h h0
  exact ⟨ab, ao, ha, fun i hi => ⟨(hc i hi).1, range_below (hc i hi).2 hb (by rw [itemC_length (hc i hi).1.1]; omega)⟩⟩
/-- a box that holds an item -/
def BoxAt (w : World) (k : Nat) (x : It) : Prop := Has w k (itemA x) 32
theorem BoxAt.kind {w : World} {k : Nat} {x : It} (h : BoxAt w k x) : w.cell? ⟨k, 0, none⟩ = some (.int .i64 x.kind) := Has.cell h 0
theorem BoxAt.sz {w : World} {k : Nat} {x : It} (h : BoxAt w k x) : w.cell? ⟨k, 1, none⟩ = some (.int .i64 x.size) := Has.cell h 1
theorem BoxAt.num {w : World} {k : Nat} {x : It} (h : BoxAt w k x) : w.cell? ⟨k, 2, none⟩ = some (.int .i64 x.n) := Has.cell h 2
theorem BoxAt.nm {w : World} {k : Nat} {x : It} (h : BoxAt w k x) : w.rangeAt k 3 (Lib.byteCells x.name) := fun j u hu => by
  rw [Has.cell h (3 + j)]
  show (itemC x).toArray[3 + j]? = some u
  rw [List.getElem?_toArray, Nat.add_comm]
  show (Lib.byteCells x.name ++ [Value.string x.text])[j]? = some u
  rw [List.getElem?_append_left (List.getElem?_eq_some_iff.1 hu).1]
  exact hu
theorem BoxAt.txt {w : World} {k : Nat} {x : It} (h : BoxAt w k x) (hx : x.name.length = 32) : w.cell? ⟨k, 35, none⟩ = some (.string x.text) := by
  rw [Has.cell h 35]
  show (itemC x).toArray[35]? = _
  rw [List.getElem?_toArray]
  show (Lib.byteCells x.name ++ [Value.string x.text])[32]? = _
  rw [List.getElem?_append_right (by rw [Lib.byteCells_length, hx]; omega), Lib.byteCells_length, hx]
  rfl
theorem BoxAt.lt {w : World} {k : Nat} {x : It} (h : BoxAt w k x) : k < w.heap.size := Has.lt h
theorem BoxAt.on {w w' : World} {k : Nat} {x : It} (h : BoxAt w k x) (hb : Below w.heap.size w w') : BoxAt w' k x := below_has hb h h.lt
theorem BoxAt.grown {w w' : World} {k : Nat} {x : It} {r : Option Nat} (h : BoxAt w k x) (hg : w.grownBy w' r) (hn : some k ≠ r) : BoxAt w' k x := gb_has hg h hn
theorem BoxAt.pen {w w' : World} {k b : Nat} {v v' : Value} {x : It} (h : BoxAt w k x) (hs : PenStep w w' b v v') (hb : k ≠ b) (hv : v.ownBlock ≠ some k) : BoxAt w' k x := hs.has h hb hv
/-! ### great -/
def total (its : List It) : Nat := (its.map (·.text.size)).sum
theorem total_next (its : List It) (k : Nat) (hk : k < its.length) : total (its.take (k + 1)) = total (its.take k) + its[k].text.size := by
  unfold total
  rw [List.take_succ_eq_append_getElem hk, List.map_append, List.sum_append]
  simp
theorem total_le (its : List It) (k : Nat) : total (its.take k) ≤ total its := by
  unfold total
  conv => rhs; rw [← List.take_append_drop k its, List.map_append, List.sum_append]
  omega
def greatB (its : List It) : Bool := decide (4096 < total its) || decide (40 < its.length)
set_option maxRecDepth 100000 in
set_option maxHeartbeats 1000000 in
theorem great_at (a : Option Addr) (its : List It) (n c : Nat) (hn : n = its.length) (hl : n ≤ 4611686018427387904) (w : World) (hA : ItemsAt w a its) (g : Bool) (hg : g = greatB its) :
    Calls Try.prog 10 #[.slice a n c] w fun r w' => r = .returned (.bool g) ∧ Below w.heap.size w w' := by
  have HN := Lib.hid hn
  have HG := Lib.hid hg
  clear hn hg
  go_enter Try.func10, Try.ntmps10
  go_wp2_with fail
  go_loopw [3, 8] (fun s i wr => ∃ k t : Nat, k ≤ n ∧ i = .int .i64 k ∧ s = .int .i64 (t : Int) ∧ Hid (t = total (its.take k)) ∧ t ≤ 4096 ∧ Below w.heap.size w wr) (fun _ i _ => n - (intOf i).toNat)
  case atStart => exact ⟨0, 0, Nat.zero_le _, rfl, rfl, rfl, by omega, Below.refl _ _⟩
  case round =>
    obtain ⟨k, t, hk, rfl, rfl, HT, ht, hB⟩ := hrel
    by_cases hlt : k < n
    · have hkl : k < its.length := by rw [← HN.out]; exact hlt
      obtain ⟨ab, ao, rfl, hc⟩ := (hA.below hB) (by omega)
      obtain ⟨⟨hx32, hxt⟩, hr⟩ := hc k hkl
      have hnx := total_next its k hkl
      have hle := total_le its (k + 1)
      generalize its[k] = x at *
      rw [← HT.out] at hnx
      have HX := Lib.hid hx32
      have HS := Lib.hid (itemA_size hx32)
      have HL := Lib.hid (itemC_length hx32)
      clear hx32 hc
      go_upto_region 5 with (first
        | (with_reducible refine it_load_mid rfl _ rfl ab (ao + k * 36) rfl x hr HL.out ?_)
        | (with_reducible refine it_store rfl _ _ rfl _ x rfl rfl HS.out i0 (i0_new _ _) i0_size ?_))
      generalize hw3 : World.setRow _ _ _ = w3
      have hX3 : BoxAt w3 wr.heap.size x := by rw [← hw3]; exact (i0_new _ _).row _
      have hB3 : Below w.heap.size w w3 := by rw [← hw3]; exact below_setRow (hB.alloc hB.size _) hB.size _
      clear hw3
      have cT := hX3.txt HX.out
      have hxt' : x.text.size ≤ 4611686018427387904 := hxt
      by_cases hov : 4096 < t + x.text.size
      · have hd : decide ((4096 : Int) < (t : Int) + (x.text.size : Int)) = true := decide_eq_true (by omega)
        have hgt : greatB its = true := by unfold greatB; rw [decide_eq_true (by omega)]; rfl
        have HGT := Lib.hid hgt
        clear hnx hle hov hgt
        rw [HGT.out] at HG
        have hgo := HG.out
        subst hgo
        go_wp2_with fail
        go_ret
        exact ⟨rfl, hB3⟩
      · have hd : decide ((4096 : Int) < (t : Int) + (x.text.size : Int)) = false := decide_eq_false (by omega)
        have HT2 : Hid (t + x.text.size = total (its.take (k + 1))) := Lib.hid hnx.symm
        clear hnx hle
        go_wp2_with fail
        go_roundw
        case rel => exact ⟨k + 1, t + x.text.size, by omega, by go_num, by go_num, HT2, by omega, hB3⟩
        case measure => simp [intOf]; omega
    · obtain rfl : k = n := by omega
      have hT : t = total its := by rw [HT.out, HN.out, List.take_length]
      have hg : decide ((40 : Int) < (k : Int)) = g := by
        rw [HG.out]
        unfold greatB
        rw [decide_eq_false (show ¬ 4096 < total its by omega), Bool.false_or, ← HN.out]
        by_cases h : 40 < k
        · rw [decide_eq_true h, decide_eq_true (by omega)]
        · rw [decide_eq_false h, decide_eq_false (by omega)]
      clear hT HT HG hA
      go_wp2_with fail
      go_ret
      exact ⟨rfl, hB⟩
end Go.Proofs.Ytjdhedebkpclmaa
