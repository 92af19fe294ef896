/-
  Show: a name's digits.
-/
import Derived.Test.YteachheacllblaaDoorDigDigit
import Derived.Laws.IdiomStrings
import Derived.Deep.RegionHeld3
import Derived.Deep.DeepAppendRoom
import Derived.Deep.AppendLies
namespace Go.Proofs.YteachheacllblaaDoor
open Go.RowKit Mem Sha
theorem dig_at (a : Nat) (ha : a < 16) (w : World) :
    (Instr.index 9 (.string ⟨#[48, 49, 50, 51, 52, 53, 54, 55, 56, 57, 97, 98, 99, 100, 101, 102]⟩) (.int .u8 (a : Int))).run Tryd.prog w = .ok (.int .u8 ((dig a).toNat : Int)) w := by
  obtain rfl | rfl | rfl | rfl | rfl | rfl | rfl | rfl | rfl | rfl | rfl | rfl | rfl | rfl | rfl | rfl : a = 0 ∨ a = 1 ∨ a = 2 ∨ a = 3 ∨ a = 4 ∨ a = 5 ∨ a = 6 ∨ a = 7 ∨ a = 8 ∨ a = 9 ∨ a = 10 ∨ a = 11 ∨ a = 12 ∨ a = 13 ∨ a = 14 ∨ a = 15 := by omega
  all_goals kernel_rfl
theorem infoU8 : (Tryd.prog.info? 5).map (·.size) = some 1 := by kernel_rfl
def z64 : Array Value := bytesV (List.replicate 64 0)
/-- the digits of the bytes from i on, the last one's first -/
def digsFrom (l : List UInt8) : Nat → List UInt8
  | 0 => []
  | k + 1 => digsFrom l k ++ [dig ((l.getD (31 - k) 0).toNat / 16), dig ((l.getD (31 - k) 0).toNat % 16)]
theorem conv_own (wr : World) (base S n c : Nat) (l : List UInt8) (hl : l.length = n) (h : wr.ownsRow base 5 1 (.slice (some ⟨S, 0, none⟩) n c) n (Lib.byteCells l)) :
    (Go.convert 40 9 (.slice (some ⟨S, 0, none⟩) n c)).run Tryd.prog wr = .ok (.string (str l)) wr := by
  obtain ⟨_, ⟨h, _⟩ | ⟨g, cap, cur, hv, _, hg, _, _, hcs, ht⟩⟩ := h
  · cases h
  · simp only [Value.slice.injEq, Option.some.injEq, Addr.mk.injEq] at hv
    obtain ⟨⟨rfl, _⟩, _, rfl⟩ := hv
    subst hl
    have hH : Has wr S cur 5 := hg
    refine run_convert_bytes_back wr 40 9 5 ⟨S, 0, none⟩ c l Tryd.underlying40 Tryd.underlying5 Tryd.underlying9 (fun j hj => ?_)
    have e : cur[j]? = (Lib.byteCells l)[j]? := by rw [← ht, List.getElem?_take_of_lt (by omega), Array.getElem?_toList]
    have ea : (⟨S, 0, none⟩ : Addr).add j = ⟨S, j, none⟩ := by
      unfold Addr.add
      by_cases h0 : j = 0
      · subst h0; rfl
      · simp [h0]
    rw [ea, hH.cell j, e]
    simp [Lib.byteCells, hj]
theorem digsFrom_length (l : List UInt8) (k : Nat) : (digsFrom l k).length = 2 * k := by
  induction k with
  | zero => rfl
  | succ k ih => simp [digsFrom, ih]; omega
theorem digsFrom_cons (l : List UInt8) (k : Nat) (hk : k ≤ 32) : digsFrom l k ++ digs l (32 - k) = digs l 32 := by
  induction k with
  | zero => rfl
  | succ k ih =>
    rw [← ih (by omega), show 32 - k = (32 - (k + 1)) + 1 by omega, digsFrom, digs, show 31 - k = 32 - (k + 1) by omega]
    simp
theorem digsFrom_all (l : List UInt8) : digsFrom l 32 = digs l 32 := by
  have := digsFrom_cons l 32 (Nat.le_refl _)
  rwa [Nat.sub_self, digs, List.append_nil] at this
set_option maxRecDepth 100000 in
set_option maxHeartbeats 1000000 in
theorem show_ (l : List UInt8) (hl : l.length = 32) (w : World) :
    Calls Tryd.prog 16 #[.agg (bytesV l)] w fun e w' => e = .returned (.string (str (digsFrom l 32))) ∧ Below w.heap.size w w' := by
  have HL := Lib.hid hl
  clear hl
  have hmk : ∀ w, (Instr.makeSlice 40 (.int .i64 0) (.int .i64 64)).run Tryd.prog w = .ok (.slice (some ⟨w.heap.size, 0, none⟩) 0 64) (w.alloc (.cells z64 5)) := fun _ => by kernel_rfl
  go_enter Tryd.func16, Tryd.ntmps16
  go_wp2_with fail
  clear hmk
  generalize hw1 : World.alloc _ _ = w1
  have hA0 : Has w1 w.heap.size (bytesV l) 24 := by rw [← hw1]; exact (Has.new _ _).alloc _
  have hS0 : w1.ownsRow w.heap.size 5 1 (.slice (some ⟨w.heap.size + 1, 0, none⟩) 0 64) 0 [] := by
    rw [← hw1]
    refine ⟨rfl, .inr ⟨w.heap.size + 1, 64, z64, rfl, by omega, ?_, by decide, by decide, rfl, rfl⟩⟩
    have := Has.new (w := w.alloc (.cells (bytesV l) 24)) z64 5
    rwa [World.size_alloc] at this
  have hB0 : Below w.heap.size w w1 := by rw [← hw1]; exact ((Below.refl _ _).alloc (Nat.le_refl _) _).alloc (by simp) _
  clear hw1
  go_loopw [3, 4] (fun sv iv wr => ∃ k : Nat, k ≤ 32 ∧ iv = .int .i64 (31 - (k : Int)) ∧ sv = .slice (some ⟨w.heap.size + 1, 0, none⟩) (2 * k) 64 ∧ Below w.heap.size w wr ∧ Has wr w.heap.size (bytesV l) 24 ∧ wr.ownsRow w.heap.size 5 1 (.slice (some ⟨w.heap.size + 1, 0, none⟩) (2 * k) 64) (2 * k) (Lib.byteCells (digsFrom l k))) (fun _ iv _ => (intOf iv + 1).toNat)
  case atStart => exact ⟨0, by omega, rfl, rfl, hB0, hA0, hS0⟩
  case round =>
    obtain ⟨k, hk, rfl, rfl, hB, hA, hS⟩ := hrel
    by_cases hlt : k < 32
    · obtain ⟨i, hi⟩ : ∃ i, i = 31 - k := ⟨_, rfl⟩
      have hie : 31 - (k : Int) = (i : Nat) := by omega
      have hil : i < l.length := by rw [HL.out]; omega
      have c1 := hA.byte i hil
      have hx := l[i].toNat_lt
      have hd : digsFrom l (k + 1) = digsFrom l k ++ [dig (l[i].toNat / 16), dig (l[i].toNat % 16)] := by
        rw [digsFrom, ← hi, List.getD_eq_getElem?_getD, List.getElem?_eq_getElem hil]; rfl
      generalize l[i].toNat = x at *
      obtain ⟨a, ha⟩ : ∃ a, a = x / 16 := ⟨_, rfl⟩
      obtain ⟨b, hb⟩ : ∃ b, b = x % 16 := ⟨_, rfl⟩
      rw [← ha, ← hb] at hd
      have HD := Lib.hid hd
      have e2 : (x : Int) / 16 = (a : Int) := by omega
      have e3 : bits .and .u8 (x : Int) 15 = (b : Int) := by
        rw [show bits .and .u8 (x : Int) 15 = (x : Int) % 16 from bits_mask .u8 8 (by decide) wraps_u8 4 (by decide) (x : Int) (by omega) (by omega)]; omega
      have q1 := dig_at a (by omega)
      have q2 := dig_at b (by omega)
      have HK : Hid (i = 31 - k ∧ k < 32) := Lib.hid ⟨hi, hlt⟩
      have hi31 : i < 32 := by omega
      have hns : some w.heap.size ≠ some (w.heap.size + 1) := by simp
      clear ha hb hx hd hil hA0 hS0 hB0
      obtain ⟨i0, hi0, hz0⟩ := Option.map_eq_some_iff.1 infoU8
      rw [hie]
      clear hi hie
      have hi0' : (0 : Int) ≤ (i : Int) := Int.natCast_nonneg _
      have hi1' : (i : Int) < 32 := by omega
      go_wp2_with fail
      go_region_held3 (fun w' => w'.cell? ⟨w.heap.size, i, none⟩ = some (.int .u8 (x : Nat)))
        (first | exact c1 | go_keep | (rw [hgrow.cell_far _ (by simp; have := hA.lt; omega) (by simp)]; assumption))
        ((refine wp_append_own_spare _ _ _ 40 (by rfl) w.heap.size 5 i0 1 Tryd.underlying40 hi0 hz0 (w.heap.size + 1) (2 * k) 64 (Lib.byteCells (digsFrom l k)) (by rfl) ((hS.alloc _).drew)
              ⟨wr.heap.size, 0, none⟩ 2 2 [.int .u8 ((dig a).toNat : Int), .int .u8 ((dig b).toNat : Int)] (by rfl) (by rfl) (World.news_of_block (cs := #[.int .u8 ((dig a).toNat : Int), .int .u8 ((dig b).toNat : Int)]) (t := 5) (fr := (0, 0)) (heap_alloc_new wr _)) (by simp [Value.oneCell'])
              (by omega) ?_; intro w4 hown1 hgrow))
      all_goals
        have hB4 : Below w.heap.size w w4 := hB.trans (((((Below.refl _ _).alloc hB.size _).drew).trans (gb_toBelow hgrow (by omega) (by simp [World.drew]; have := hB.size; omega))))
        have hA4 : Has w4 w.heap.size (bytesV l) 24 := gb_has hgrow ((hA.alloc _).drew) (by simp)
        have hx4 : Lib.byteCells (digsFrom l k) ++ [.int .u8 ((dig a).toNat : Int), .int .u8 ((dig b).toNat : Int)] = Lib.byteCells (digsFrom l (k + 1)) := by rw [HD.out]; simp [Lib.byteCells]
        rw [hx4] at hown1
        clear hgrow hx4 hA hB hS c1
        go_wp2_with fail
        go_roundw
        case rel => exact ⟨k + 1, by omega, congrArg (Value.int .i64) (by have := HK.out; omega), by rw [Nat.mul_add], hB4, hA4, by rw [Nat.mul_add]; exact hown1⟩
        case measure => have := HK.out; first | (simp [intOf]; done) | (simp [intOf]; omega)
    · obtain rfl : k = 32 := by omega
      have hdl := digsFrom_length l 32
      obtain ⟨D, hD⟩ : ∃ D, D = digsFrom l 32 := ⟨_, rfl⟩
      rw [← hD] at hdl hS
      have HDD := Lib.hid hD
      clear hD
      have hcv : (Go.convert 40 9 (.slice (some ⟨w.heap.size + 1, 0, none⟩) 64 64)).run Tryd.prog wr = .ok (.string (str D)) wr := conv_own wr w.heap.size (w.heap.size + 1) 64 64 D hdl hS
      clear hS hdl
      go_wp2_with fail
      go_ret
      exact ⟨congrArg (fun d => Ending.returned (Value.string (str d))) HDD.out, hB⟩
end Go.Proofs.YteachheacllblaaDoor
