/-
  The reference's Show: a name's digits, the last byte's first.
-/
import Derived.Test.YteachheacllblaaDoorRows
import Derived.Test.YteachheacllblaaDoorMem
import Derived.Lib.QuietBelow
import Derived.Laws.DeepStrings4
namespace Go.Proofs.YteachheacllblaaDoor
open Go.RowKit Mem Sha
/-- a digit's sign -/
def dig (n : Nat) : UInt8 := ([48, 49, 50, 51, 52, 53, 54, 55, 56, 57, 97, 98, 99, 100, 101, 102] : List UInt8).getD n 0
/-- the digits of the first i bytes, the last one's first -/
def digs (l : List UInt8) : Nat → List UInt8
  | 0 => []
  | i + 1 => dig ((l.getD i 0).toNat / 16) :: dig ((l.getD i 0).toNat % 16) :: digs l i
def str (l : List UInt8) : ByteArray := ⟨l.toArray⟩
theorem dig_cut (a : Nat) (ha : a < 16) (w : World) :
    (Instr.slice 9 (.string ⟨#[48, 49, 50, 51, 52, 53, 54, 55, 56, 57, 97, 98, 99, 100, 101, 102]⟩) (some (.int .i64 (a : Int))) (some (.int .i64 ((a : Int) + 1))) none).run Tryd.prog w = .ok (.string ⟨#[dig a]⟩) w := by
  rw [run_slice_string_if w 9 _ .i64 .i64 a (a + 1) Tryd.underlying9, if_pos ⟨by omega, by show (a : Int) + 1 ≤ 16; omega⟩, if_pos ⟨by omega, by omega⟩]
  have h : ∀ n : Fin 16, (ByteArray.extract ⟨#[48, 49, 50, 51, 52, 53, 54, 55, 56, 57, 97, 98, 99, 100, 101, 102]⟩ n.val (n.val + 1)) = ⟨#[dig n.val]⟩ := by decide +kernel
  have e := h ⟨a, ha⟩
  rw [show ((a : Int)).toNat = a by omega, show ((a : Int) + 1).toNat = a + 1 by omega, e]
theorem str_next (a b : Nat) (l : List UInt8) : ((⟨#[dig a]⟩ : ByteArray) ++ ⟨#[dig b]⟩) ++ str l = str (dig a :: dig b :: l) := by
  ext1
  simp [str]
theorem digs_length (l : List UInt8) (i : Nat) : (digs l i).length = 2 * i := by
  induction i with
  | zero => rfl
  | succ i ih => simp [digs, ih]; omega
theorem str_size (l : List UInt8) : (str l).size = l.length := by show l.toArray.size = _; simp
structure Rs (w wr : World) (A : Nat) (l : List UInt8) : Prop where
  below : Below w.heap.size w wr
  a : Has wr A (bytesV l) 24
set_option maxRecDepth 100000 in
set_option maxHeartbeats 1000000 in
theorem ref_show (l : List UInt8) (hl : l.length = 32) (w : World) :
    Calls Tryd.prog 18 #[.agg (bytesV l)] w fun e w' => e = .returned (.string (str (digs l 32))) ∧ Below w.heap.size w w' := by
  have HL := Lib.hid hl
  clear hl
  go_enter Tryd.func18, Tryd.ntmps18
  go_wp2_with fail
  generalize hw1 : World.alloc _ _ = w1
  have h0 : Rs w w1 w.heap.size l := by rw [← hw1]; exact ⟨(Below.refl _ _).alloc (Nat.le_refl _) _, Has.new _ _⟩
  clear hw1
  generalize hA : w.heap.size = A at *
  clear hA
  go_loopw [3, 4] (fun sv iv wr => ∃ i : Nat, i ≤ 32 ∧ iv = .int .i64 i ∧ sv = .string (str (digs l i)) ∧ Rs w wr A l) (fun _ iv _ => 32 - (intOf iv).toNat)
  case atStart => exact ⟨0, by omega, rfl, rfl, h0⟩
  case round =>
    obtain ⟨i, hi, rfl, rfl, hs⟩ := hrel
    by_cases hlt : i < 32
    · have hil : i < l.length := by rw [HL.out]; exact hlt
      have c1 := hs.a.byte i hil
      have hx := l[i].toNat_lt
      have hd : digs l (i + 1) = dig (l[i].toNat / 16) :: dig (l[i].toNat % 16) :: digs l i := by
        rw [digs, List.getD_eq_getElem?_getD, List.getElem?_eq_getElem hil]; rfl
      generalize l[i].toNat = x at *
      obtain ⟨a, ha⟩ : ∃ a, a = x / 16 := ⟨_, rfl⟩
      obtain ⟨b, hb⟩ : ∃ b, b = x % 16 := ⟨_, rfl⟩
      rw [← ha, ← hb] at hd
      have HD := Lib.hid hd
      have e1 : wrap64 (x : Int) = (x : Int) := by unfold wrap64; omega
      have e2 : wrap64 ((x : Int) / 16) = (a : Int) := by unfold wrap64; omega
      have e3 : (x : Int) % 16 = (b : Int) := by omega
      have e4 : wrap64 ((x : Int).tdiv 16) = (a : Int) := by rw [Int.tdiv_eq_ediv_of_nonneg (by omega)]; exact e2
      have e5 : (x : Int).tmod 16 = (b : Int) := by rw [Int.tmod_eq_emod_of_nonneg (by omega)]; exact e3
      have hal : a < 16 := by omega
      have hbl : b < 16 := by omega
      clear ha hb hx hd hil
      go_wp2_with fail
      simp only [e2]
      clear e1 e2 e3 e4 e5 c1
      have q1 := dig_cut a hal
      have q2 := dig_cut b hbl
      have z1 : (str (digs l i)).size = 2 * i := by rw [str_size, digs_length]
      have z2 : ((⟨#[dig a]⟩ : ByteArray) ++ ⟨#[dig b]⟩).size = 2 := by rw [ByteArray.size_append]; rfl
      have q3 := str_next a b (digs l i)
      rw [← HD.out] at q3
      have HQ3 := Lib.hid q3
      clear q3
      refine wp_region_quiet_below (by kernel_rfl) (by kernel_rfl) ?_
      repeat (go_big_quiet_step (fail))
      refine wpQuiet_nil ?_
      intro _ hw'
      obtain ⟨p, hw''⟩ := hw'
      subst hw''
      have hs2 : Rs w (Sort.grow (redrawn wr p.d) p.os) A l := ⟨hs.below.trans ((below_regrown wr p.d p.os).mono hs.below.size), below_has (below_regrown wr p.d p.os) hs.a hs.a.lt⟩
      clear hs
      generalize Sort.grow (redrawn wr p.d) p.os = w2 at *
      clear p q1 q2 z1 z2
      go_wp2_with fail
      go_roundw
      case rel => exact ⟨i + 1, by omega, by go_num, congrArg Value.string HQ3.out, hs2⟩
      case measure => simp [intOf]; omega
    · obtain rfl : i = 32 := by omega
      go_wp2_with fail
      go_ret
      exact ⟨rfl, hs.below⟩
end Go.Proofs.YteachheacllblaaDoor
