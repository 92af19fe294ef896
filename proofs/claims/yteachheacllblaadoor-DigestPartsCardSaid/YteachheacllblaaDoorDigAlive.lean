import Derived.Test.YteachheacllblaaDoorRows
import Derived.Test.YteachheacllblaaDoorDigOf
import Derived.Stop.BytesEq
namespace Go.Proofs.YteachheacllblaaDoor
open Go.RowKit Mem Sha

theorem eql_hash (l1 l2 : List UInt8) (h1 : l1.length = 32) (h2 : l2.length = 32) (w : World) :
    (binOp .eql 24 (.agg (bytesV l1)) (.agg (bytesV l2))).run Tryd.prog w = .ok (.bool (l1 == l2)) w :=
  run_eql_bytes w 24 5 32 Tryd.underlying24 Tryd.underlying5 size1 l1 l2 h1 h2
theorem sha_length (l : List UInt8) : (sha l).length = 32 := nameOf_length _

set_option maxRecDepth 100000 in
set_option maxHeartbeats 1000000 in
theorem alive (w : World) (hT : Tab w) :
    Calls Tryd.prog 8 #[] w fun e w' => e = .returned (.bool true) ∧ Below w.heap.size w w' := by
  go_enter Tryd.func8, Tryd.ntmps8
  go_wp2_with fail
  have hb1 : Below w.heap.size w (w.alloc (.cells #[.string ⟨#[97, 98, 99]⟩] 9)) := (Below.refl _ _).alloc (Nat.le_refl _) _
  refine (of (some ⟨w.heap.size, 0, none⟩) [⟨#[97, 98, 99]⟩] 1 1 rfl _ (hT.below hb1) (by rw [flat_one]; decide) (by omega) (PartsW.one (by simp))).mono ?_
  rintro e w2 ⟨rfl, hb2⟩
  rw [flat_one]
  have hB2 := hb1.trans (hb2.mono hb1.size)
  obtain ⟨rs, hrs⟩ : ∃ rs, rs = sha [0x61, 0x62, 0x63] := ⟨_, rfl⟩
  have habc := sha_abc
  rw [← hrs] at habc
  have hlen : rs.length = 32 := by rw [hrs]; exact sha_length _
  rw [show (⟨#[97, 98, 99]⟩ : ByteArray).data.toList = [0x61, 0x62, 0x63] from rfl, ← hrs]
  have HL := Lib.hid hlen
  have HO := Lib.hid (bytesV_one rs)
  have hsz : some (bytesV rs).size = some 32 := by rw [bytesV_size, hlen]
  have HSZ := Lib.hid hsz
  have h31 : rs[31]'(by rw [hlen]; omega) = 0xad := by have := habc.1; rwa [List.getD_eq_getElem?_getD, List.getElem?_eq_getElem (by rw [hlen]; omega), Option.getD_some] at this
  have h0 : rs[0]'(by rw [hlen]; omega) = 0xba := by have := habc.2; rwa [List.getD_eq_getElem?_getD, List.getElem?_eq_getElem (by rw [hlen]; omega), Option.getD_some] at this
  have HA : Hid (∀ w', Has w' w2.heap.size (bytesV rs) 24 → w'.cell? ⟨w2.heap.size, 31, none⟩ = some (.int .u8 173) ∧ w'.cell? ⟨w2.heap.size, 0, none⟩ = some (.int .u8 186)) := fun w' h => by
    have a1 := h.byte 31 (by rw [hlen]; omega)
    have a2 := h.byte 0 (by rw [hlen]; omega)
    rw [h31] at a1
    rw [h0] at a2
    exact ⟨a1, a2⟩
  clear hrs habc hlen hsz hb1 hb2 h31 h0
  go_upto_region 2 with (with_reducible refine wpList_store_row rfl 24 _ _ rfl _ (bytesV rs) rfl rfl 24 _ (heap_alloc_new w2 _) (infoHash.trans HSZ.out.symm) (by simp [Option.some.inj HSZ.out]) HO.out ?_)
  generalize hw3 : World.setRow _ _ _ = w3
  have hin : Has w3 w2.heap.size (bytesV rs) 24 := by rw [← hw3]; exact (Has.new _ _).row _
  have hB3 : Below w.heap.size w w3 := by rw [← hw3]; exact below_setRow (hB2.alloc hB2.size _) hB2.size _
  obtain ⟨c31, c0⟩ := HA.out w3 hin
  clear hw3 hin hB2
  go_wp2_with fail
  go_ret
  exact ⟨rfl, hB3⟩
/-! ### a hash that is read whole -/
def IsHash (w : World) (A : Nat) : Prop := ∃ l : List UInt8, l.length = 32 ∧ Has w A (bytesV l) 24
def hashOf (w : World) (A : Nat) : Value := match w.heap[A]? with | some (.cells cs _ _) => .agg cs | _ => undef
theorem hashOf_eq {w : World} {A : Nat} {l : List UInt8} (h : Has w A (bytesV l) 24) : hashOf w A = .agg (bytesV l) := by unfold hashOf; rw [h.out]
theorem loadAt_hash (w : World) (A : Nat) (h : IsHash w A) : (Instr.loadAt 24 (.pointer (some ⟨A, 0, none⟩))).run Tryd.prog w = .ok (hashOf w A) w := by
  obtain ⟨l, hl, h⟩ := h
  rw [hashOf_eq h]
  exact run_loadAt_mid w A 0 24 (l.map fun b : UInt8 => Value.int .u8 (b.toNat : Int)) _ (fun j v hv => by
    rw [Nat.zero_add, h.cell]; simpa [bytesV] using hv) Tryd.underlying24 rfl (by rw [List.length_map, hl]; exact infoHash)
def IsHashV (w : World) (v : Value) : Prop := ∃ A, v = .pointer (some ⟨A, 0, none⟩) ∧ IsHash w A
def hashOfV (w : World) : Value → Value
  | .pointer (some p) => hashOf w p.block
  | _ => undef
theorem isHashV (w : World) (A : Nat) (h : IsHash w A) : IsHashV w (.pointer (some ⟨A, 0, none⟩)) := ⟨A, rfl, h⟩
theorem hashOfV_at (w : World) (A : Nat) : hashOfV w (.pointer (some ⟨A, 0, none⟩)) = hashOf w A := rfl
theorem load_op (ρ : Operand → Value) (d : Option Tmp) (x : Operand) (ty : TypeId) (pos : String) (after : Array Edge) (g : Option (Nat × Bool)) (w : World) (h : IsHashV w (ρ x)) :
    (execOp ρ ⟨d, .load 24 x, ty, pos, after, g⟩).run Tryd.prog w = .ok (Next.value (hashOfV w (ρ x))) w := by
  obtain ⟨A, hx, h⟩ := h
  have := loadAt_hash w A h
  rw [hx]
  simp only [execOp, hx, Sem.run_bind, this, Result.andThen_ok, hashOfV]
  rfl
def isLoadH : Op → Bool
  | .load t _ => t == 24
  | _ => false
def loadX : Op → Operand
  | .load _ x => x
  | _ => .tmp 0
theorem isLoadH_at (t : TypeId) (x : Operand) : isLoadH (.load t x) = (t == 24) := rfl
theorem loadX_at (t : TypeId) (x : Operand) : loadX (.load t x) = x := rfl
theorem load_op2 (ρ : Operand → Value) (o : Oper) (w : World) (h1 : isLoadH o.op = true) (h : IsHashV w (ρ (loadX o.op))) :
    (execOp ρ o).run Tryd.prog w = .ok (Next.value (hashOfV w (ρ (loadX o.op)))) w := by
  obtain ⟨d, op, ty, pos, after, g⟩ := o
  cases op <;> simp only [isLoadH] at h1 <;> try exact absurd h1 (by decide)
  case load t x =>
    obtain rfl : t = 24 := by simpa using h1
    exact load_op ρ d x ty pos after g w h
/-- a slice of one string, as a call's variadic makes it -/
theorem slice_one (s : ByteArray) (w : World) : (Instr.buildSlice 28 1 #[(0, .string s)]).run Tryd.prog w = .ok (.slice (some ⟨w.heap.size, 0, none⟩) 1 1) (w.alloc (.cells #[.string s] 9)) := by kernel_rfl
theorem eql_self (l : List UInt8) (h : l.length = 32) (w : World) : (binOp .eql 24 (.agg (bytesV l)) (.agg (bytesV l))).run Tryd.prog w = .ok (.bool true) w := by
  rw [eql_hash l l h h]; simp
end Go.Proofs.YteachheacllblaaDoor
