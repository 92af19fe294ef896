import Derived.Test.YthcebnfdapcllaaGreatDoorRBunQ16
import Derived.Test.YthcebnfdapcllaaGreatDoorRBunQ8
import Derived.Deep.OwnRows
namespace Go.Proofs.YthcebnfdapcllaaGreatDoor.An
open Go.RowKit Mem Sc NN.Rg2
open Pg (Pl pbit gv Ws)
set_option maxRecDepth 100000
def wsC (ws : List Nat) : List Value := ws.map fun (x : Nat) => Value.int .u64 (x : Int)
def bkA (x : Pl) (v : Value) (n m : Nat) : Array Value := #[.int .i64 x.s, .int .i64 x.p, .int .i64 x.o, v, .int .i64 (n : Int), .int .i64 (m : Int)]
structure BookAt (w : World) (b : Nat) (v : Value) (x : Pl) (bs : List Bool) (m : Nat) : Prop where
  cell : Has w b (bkA x v bs.length m) 101
  own : ∃ ws, w.ownsRow (b + 1) 24 1 v ws.length (wsC ws) ∧ Ws ws bs ∧ 64 * ws.length ≤ bs.length + 1024
  good : x.good = true
  met : m ≤ bs.length
  few : bs.length ≤ 1099511627776
variable {w w' : World} {b : Nat} {v v' : Value} {x : Pl} {bs : List Bool} {m : Nat}
theorem BookAt.lt (h : BookAt w b v x bs m) : b < w.heap.size := h.cell.lt
theorem BookAt.ownLt (h : BookAt w b v x bs m) {k : Nat} (hk : v.ownBlock = some k) : b + 1 ≤ k ∧ k < w.heap.size := by
  obtain ⟨ws, ho, -⟩ := h.own
  exact ho.lt k hk
theorem BookAt.plan (h : BookAt w b v x bs m) : w.rangeAt b 0 (plA x).toList := fun j u hu => by
  rw [Has.cell h.cell (0 + j), Nat.zero_add]
  have hj := (List.getElem?_eq_some_iff.1 hu).1
  have hj3 : j < 3 := hj
  obtain rfl | rfl | rfl : j = 0 ∨ j = 1 ∨ j = 2 := by omega
  all_goals exact hu
theorem BookAt.c3 (h : BookAt w b v x bs m) : w.cell? ⟨b, 3, none⟩ = some v := h.cell.cell 3
theorem BookAt.c4 (h : BookAt w b v x bs m) : w.cell? ⟨b, 4, none⟩ = some (.int .i64 (bs.length : Int)) := h.cell.cell 4
theorem BookAt.c5 (h : BookAt w b v x bs m) : w.cell? ⟨b, 5, none⟩ = some (.int .i64 (m : Int)) := h.cell.cell 5
theorem BookAt.below (h : BookAt w b v x bs m) (hb : Below w.heap.size w w') : BookAt w' b v x bs m := by
  obtain ⟨ws, ho, hw⟩ := h.own
  exact ⟨below_has hb h.cell h.lt, ⟨ws, ho.kept (gb_below hb none) (by cases hv : v.ownBlock <;> simp), hw⟩, h.good, h.met, h.few⟩
theorem left_at (h : BookAt w b v x bs m) : Calls Tryz.prog 74 #[.pointer (some ⟨b, 0, none⟩)] w fun r w' => r = .returned (.int .i64 ((bs.length - m : Nat) : Int)) ∧ Below w.heap.size w w' := by
  have hm := h.met
  have hf := h.few
  have H := Lib.hid h
  obtain ⟨n, hn⟩ : ∃ n, bs.length = n := ⟨_, rfl⟩
  obtain ⟨z, hz⟩ : ∃ z : Int, ((n - m : Nat) : Int) = z := ⟨_, rfl⟩
  have hw : IntKind.i64.wrap ((n : Int) - (m : Int)) = z := by rw [IntKind.wrap_i64]; omega
  rw [hn, hz]
  have HN := Lib.hid hn
  clear hz hn hm hf h
  go_enter Tryz.func74, Tryz.ntmps74
  go_upto_region 3 with fail
  refine wp_tab (fun _ _ w' => Below w.heap.size w w') 99 98 [3, 7, 8] [.pointer (some ⟨b, 0, none⟩), .pointer (some ⟨b, 0, none⟩), .pointer (some ⟨b, 4, none⟩), .int .i64 (n : Int), .pointer (some ⟨b, 0, none⟩), .pointer (some ⟨b, 0, none⟩), .pointer (some ⟨b, 5, none⟩), .int .i64 (m : Int), .int .i64 z, .int .i64 z] (Below.refl _ _).drew
    ⟨fun _ _ w' _ _ hC => .val (ex_load_of rfl rfl (ld_i (HN.out ▸ (H.out.below hC).c4))) hC, fun _ _ w' _ _ hC => .val (ex_load_of rfl rfl (ld_i (H.out.below hC).c5)) hC, fun _ _ w' _ _ hC => .val (ex_subi rfl rfl rfl hw) hC, trivial⟩ ?_
  intro w' hB
  simp only [finT, List.set_cons_zero, List.set_cons_succ, List.tail_cons, List.headD_cons]
  go_wp2_with fail
  go_ret
  exact ⟨rfl, hB⟩
theorem BookAt.words (h : BookAt w b v x bs m) (h0 : 0 < bs.length) : ∃ g cap ws, v = .slice (some ⟨g, 0, none⟩) ws.length cap ∧ Ws ws bs ∧ b + 1 ≤ g ∧ g < w.heap.size ∧ 64 * ws.length ≤ bs.length + 1024 ∧ ∀ j (hj : j < ws.length), w.cell? ⟨g, j, none⟩ = some (.int .u64 (ws[j] : Int)) ∧ w.frozen? ⟨g, j, none⟩ = false := by
  obtain ⟨ws, ho, hw, hr⟩ := h.own
  have hr2 := hw.room
  rcases ho.2 with ⟨rfl, h1⟩ | ⟨g, cap, cur, rfl, hb, hg, hc, hm, hcs, ht⟩
  · omega
  · have hH : Has w g cur 24 := hg
    refine ⟨g, cap, ws, rfl, hw, hb, hH.lt, hr, fun j hj => ⟨?_, hH.free j⟩⟩
    have e : cur[j]? = (wsC ws)[j]? := by rw [← ht, List.getElem?_take_of_lt (by omega), Array.getElem?_toList]
    rw [hH.cell j, e]
    simp [wsC, hj]
theorem andu1 (z : Nat) (hz : z < 18446744073709551616) : bits .and .u64 (z : Int) 1 = ((z % 2 : Nat) : Int) := by
  have h := bits_and_u64_nat z 1 hz (by omega)
  rw [Nat.and_one_is_mod] at h
  exact h
theorem wbit_at (h : BookAt w b v x bs m) (k : Nat) (hk : k < bs.length) : Calls Tryz.prog 75 #[.pointer (some ⟨b, 0, none⟩), .int .i64 (k : Int)] w fun r w' => r = .returned (.bool bs[k]) ∧ w = w' := by
  obtain ⟨g, cap, ws, rfl, hw, hg, hgl, hr, hc⟩ := h.words (by omega)
  have hf := h.few
  have c3 := h.c3
  obtain ⟨hj, hb⟩ := hw.get k hk
  have hlt := hw.lt _ (List.getElem_mem hj)
  have ck := (hc _ hj).1
  rw [← hb]
  generalize ws[k / 64] = y at *
  obtain ⟨j, hje⟩ : ∃ j, k / 64 = j := ⟨_, rfl⟩
  obtain ⟨i, hie⟩ : ∃ i, k % 64 = i := ⟨_, rfl⟩
  have f1 : (k : Int).tdiv 64 = (j : Int) := by rw [← hje, Int.ofNat_tdiv]; rfl
  have f2 : (k : Int).tmod 64 = (i : Int) := by rw [← hie, Int.ofNat_tmod]; rfl
  have hi : i < 64 := by omega
  rw [hje] at ck hj
  rw [hie]
  obtain ⟨y2, hy2⟩ : ∃ y2, y / 2 ^ i = y2 := ⟨_, rfl⟩
  have f3 : (y : Int) / 2 ^ i = (y2 : Int) := by rw [← hy2]; norm_cast
  have f4 := andu1 y2 (by rw [← hy2]; exact Nat.lt_of_le_of_lt (Nat.div_le_self _ _) hlt)
  rw [hy2]
  obtain ⟨y3, hy3⟩ : ∃ y3, y2 % 2 = y3 := ⟨_, rfl⟩
  rw [hy3] at f4 ⊢
  obtain ⟨n, hn⟩ : ∃ n, ws.length = n := ⟨_, rfl⟩
  rw [hn] at c3 hj
  have f1w : IntKind.i64.wrap (j : Int) = (j : Int) := by rw [IntKind.wrap_i64]; omega
  have hd : (((y3 : Nat) : Int) == 1) = decide (y3 = 1) := by rw [Bool.eq_iff_iff]; simp only [beq_iff_eq, decide_eq_true_eq]; omega
  obtain ⟨pb, hpb⟩ : ∃ pb, decide (y3 = 1) = pb := ⟨_, rfl⟩
  rw [hpb] at hd ⊢
  clear hpb hy3 hy2 hn hie hje hc hw hb h hlt
  go_enter Tryz.func75, Tryz.ntmps75
  go_wp2_with fail
  go_ret
  exact ⟨rfl, rfl⟩
end Go.Proofs.YthcebnfdapcllaaGreatDoor.An
