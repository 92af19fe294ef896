import Derived.Test.YthcebnfdapcllaaGreatDoorRHashMem
import Derived.Test.YthcebnfdapcllaaGreatDoorRScEye
import Derived.IntWalk
import Derived.Deep.AppendLies
import Derived.Lib.AppendStr
import Derived.Deep.RegionHeld3
namespace Go.Proofs.YthcebnfdapcllaaGreatDoor
open Go.RowKit Mem Sc
structure PenAt (w : World) (b : Nat) (v : Value) (l : List UInt8) : Prop where
  cell : Has w b #[v] 120
  own : w.ownsRow (b + 1) 5 1 v l.length (Lib.byteCells l)
structure PenStep (w w' : World) (b : Nat) (v v' : Value) : Prop where
  os : w'.os = w.os
  tape : w'.tape = w.tape
  output : w'.output = w.output
  size : w.heap.size ≤ w'.heap.size
  block : ∀ k, k < w.heap.size → k ≠ b → v.ownBlock ≠ some k → w'.heap[k]? = w.heap[k]?
  lies : ∀ k, v'.ownBlock = some k → v.ownBlock = some k ∨ w.heap.size ≤ k
variable {w w1 w2 w' : World} {b : Nat} {v v1 v2 v' : Value} {l : List UInt8}
theorem PenAt.lt (h : PenAt w b v l) : b < w.heap.size := h.cell.lt
theorem PenAt.ownLt (h : PenAt w b v l) {k : Nat} (hk : v.ownBlock = some k) : b + 1 ≤ k ∧ k < w.heap.size := h.own.lt k hk
theorem PenAt.c0 (h : PenAt w b v l) : w.cell? ⟨b, 0, none⟩ = some v := h.cell.cell 0
theorem PenStep.refl (w : World) (b : Nat) (v : Value) : PenStep w w b v v := ⟨rfl, rfl, rfl, Nat.le_refl _, fun _ _ _ _ => rfl, fun _ h => .inl h⟩
theorem PenStep.trans (h : PenStep w w1 b v v1) (h2 : PenStep w1 w2 b v1 v2) : PenStep w w2 b v v2 :=
  ⟨h2.os.trans h.os, h2.tape.trans h.tape, h2.output.trans h.output, Nat.le_trans h.size h2.size,
    fun k hk hb hv => (h2.block k (Nat.lt_of_lt_of_le hk h.size) hb (fun e => by
      rcases h.lies k e with e | e
      · exact hv e
      · omega)).trans (h.block k hk hb hv),
    fun k hk => by
      rcases h2.lies k hk with e | e
      · exact h.lies k e
      · exact .inr (Nat.le_trans h.size e)⟩
theorem PenStep.below (h : Below w.heap.size w w1) (h2 : PenStep w1 w2 b v v1) : PenStep w w2 b v v1 :=
  ⟨h2.os.trans h.os, h2.tape.trans h.tape, h2.output.trans h.output, Nat.le_trans h.size h2.size,
    fun k hk hb hv => (h2.block k (Nat.lt_of_lt_of_le hk h.size) hb hv).trans (h.block k hk),
    fun k hk => by
      rcases h2.lies k hk with e | e
      · exact .inl e
      · exact .inr (Nat.le_trans h.size e)⟩
theorem PenAt.below (h : PenAt w b v l) (hb : Below w.heap.size w w') : PenAt w' b v l :=
  ⟨below_has hb h.cell h.lt, h.own.kept (gb_below hb none) (by cases hv : v.ownBlock <;> simp)⟩
theorem PenStep.has (h : PenStep w w' b v v') {g : Nat} {cs : Array Value} {t : TypeId} (hg : Has w g cs t) (hb : g ≠ b) (hv : v.ownBlock ≠ some g) : Has w' g cs t := (h.block g hg.lt hb hv).trans hg
theorem PenStep.toBelow (h : PenStep w w' b v v') (hp : PenAt w b v l) : Below b w w' :=
  ⟨h.os, h.tape, h.output, h.size, fun k hk => h.block k (by have := hp.lt; omega) (by omega) (fun e => by have := (hp.ownLt e).1; omega)⟩
theorem PenStep.cell (h : PenStep w w' b v v') {a : Addr} (hlt : a.block < w.heap.size) (hb : a.block ≠ b) (hv : v.ownBlock ≠ some a.block) : w'.cell? a = w.cell? a :=
  World.cell?_of_block (h.block a.block hlt hb hv)
theorem pen_new (w : World) : PenAt (w.alloc (.cells #[.slice none 0 0] 120)) w.heap.size (.slice none 0 0) [] := ⟨Has.new _ _, World.ownsRow_nil _ _ _ _⟩
def PenPost (w : World) (b : Nat) (v : Value) (l : List UInt8) (r : Ending) (w' : World) : Prop := ∃ v', r = .returned (.tuple #[]) ∧ PenAt w' b v' l ∧ PenStep w w' b v v'
theorem byte_info : ∃ i z, Tryz.prog.info? 5 = some i ∧ i.zero = some z ∧ i.size = 1 ∧ i.bytes = 1 ∧ z.cells.size = 1 := by
  have h2 : ((Tryz.prog.info? 5).bind (·.zero)).map (·.cells.size) = some 1 := by kernel_rfl
  have h3 : (Tryz.prog.info? 5).map (·.bytes) = some 1 := by kernel_rfl
  have h1 := hinfo8
  cases hi : Tryz.prog.info? 5 with
  | none => rw [hi] at h1; cases h1
  | some i =>
    rw [hi] at h1 h2 h3
    simp only [Option.map_some, Option.some.injEq, Option.bind_some] at h1 h2 h3
    cases hz : i.zero with
    | none => rw [hz] at h2; cases h2
    | some z =>
      rw [hz] at h2
      simp only [Option.map_some, Option.some.injEq] at h2
      exact ⟨i, z, rfl, hz, h1, h3, h2⟩
theorem PenAt.put (h : PenAt w b v l) {x : List UInt8} {w3 w4 : World} (hb : Below w.heap.size w w3) (hown : w4.ownsRow (b + 1) 5 1 v' (l.length + x.length) (Lib.byteCells l ++ Lib.byteCells x)) (hg : w3.grownBy w4 v.ownBlock)
    (hat : ∀ k, v'.ownBlock = some k → v.ownBlock = some k ∨ w.heap.size ≤ k) :
    PenAt (w4.setCell ⟨b, 0, none⟩ v') b v' (l ++ x) ∧ PenStep w (w4.setCell ⟨b, 0, none⟩ v') b v v' := by
  have hlt := h.lt
  have hc3 := below_has hb h.cell hlt
  have hc4 : Has w4 b #[v] 120 := gb_has hg hc3 (fun e => by have := (h.ownLt e.symm).1; omega)
  have h3 := hb.size
  have h4 := hg.size
  refine ⟨⟨hc4.set (i := 0) v', ?_⟩, hg.os.trans hb.os, hg.tape.trans hb.tape, hg.output.trans hb.output, by simp only [World.setCell, Array.size_modify]; omega, fun k hk hkb hkv => ?_, hat⟩
  · rw [List.length_append, Lib.byteCells_append]
    refine hown.kept (row := some b) ⟨rfl, rfl, rfl, by simp [World.setCell], fun k _ hn => Below.heap_setCell _ _ _ _ (fun e => hn (by rw [e]))⟩ ?_
    refine .inr (fun e => ?_)
    have := (hown.lt b e).1
    omega
  · exact (Below.heap_setCell _ _ _ _ (by simpa using hkb)).trans ((hg.block k (by omega) (fun e => hkv e.symm)).trans (hb.block k hk))
end Go.Proofs.YthcebnfdapcllaaGreatDoor
namespace Go.Proofs.YthcebnfdapcllaaGreatDoor
open Go.RowKit Mem Sc
def IntsAt (w : World) (b : Nat) (v : Value) (a : Option Addr) (ns : List Int) : Prop :=
  0 < ns.length → ∃ ab ao, a = some ⟨ab, ao, none⟩ ∧ ab ≠ b ∧ v.ownBlock ≠ some ab ∧ ab < w.heap.size ∧ ∀ i (hi : i < ns.length), w.cell? ⟨ab, ao + i, none⟩ = some (.int .i64 ns[i])
def nums (k : Nat) (ns : List Int) : List UInt8 := ns.flatMap (num k)
theorem nums_next (m : Nat) (ns : List Int) (k : Nat) (hk : k < ns.length) : nums m (ns.take (k + 1)) = nums m (ns.take k) ++ num m ns[k] := by
  unfold nums
  rw [List.take_succ_eq_append_getElem hk, List.flatMap_append]
  simp
theorem nums_length (m : Nat) (ns : List Int) : (nums m ns).length = m * ns.length := by
  induction ns with
  | nil => rfl
  | cons x ns ih =>
    show (num m x ++ nums m ns).length = _
    rw [List.length_append, ih, num_length, List.length_cons, Nat.mul_succ]; omega
set_option maxRecDepth 100000 in
set_option maxHeartbeats 1000000 in
theorem put_at (b : Nat) (v : Value) (l : List UInt8) (size : Int) (a : Option Addr) (ns : List Int) (n c : Nat) (hn : n = ns.length) (w : World) (h : PenAt w b v l) (hA : IntsAt w b v a ns) (hsz : l.length + 8 * n ≤ 70368744177664) :
    Calls Tryz.prog 89 #[.pointer (some ⟨b, 0, none⟩), .int .i64 size, .slice a n c] w fun r w' => PenPost w b v (l ++ nums (near size 8) ns) r w' := by
  have HN := Lib.hid hn
  have HA := Lib.hid hA
  clear hn hA
  have C1 := Lib.hid (near_at size 8 (by omega))
  have hm := near_le size 8 (by omega)
  generalize near size 8 = m at *
  go_enter Tryz.func89, Tryz.ntmps89
  go_wp2_with fail
  refine (C1.out _).mono ?_
  rintro r w' ⟨rfl, rfl⟩
  clear C1
  go_wp2_with fail
  go_loopw [15] (fun i wr => ∃ (k : Nat) (v1 : Value), k ≤ n ∧ i = .int .i64 k ∧ PenAt wr b v1 (l ++ nums m (ns.take k)) ∧ PenStep w wr b v v1) (fun i _ => n - (intOf i).toNat)
  case atStart => exact ⟨0, v, Nat.zero_le _, rfl, by simpa [nums] using h, PenStep.refl _ _ _⟩
  case round =>
    obtain ⟨k, v1, hk, rfl, hP, hS⟩ := hrel
    by_cases hlt : k < n
    · have hkl : k < ns.length := by rw [← HN.out]; exact hlt
      obtain ⟨ab, ao, rfl, hab, hav, habl, hc⟩ := HA.out (by omega)
      have ck := (hS.cell (a := ⟨ab, ao + k, none⟩) habl hab hav).trans (hc k hkl)
      have hnx := nums_next m ns k hkl
      have hle : (nums m (ns.take k)).length ≤ 8 * k := by
        rw [nums_length, List.length_take, Nat.min_eq_left (by omega)]
        exact Nat.mul_le_mul_right _ hm.2
      generalize ns[k] = x at *
      have HNX := Lib.hid hnx
      have HP := Lib.hid hP
      have HS := Lib.hid hS
      have Hh := Lib.hid h
      clear hnx hc hP hS h
      go_wp2_with fail
      clear ck
      go_loopw [20] (fun i wr => ∃ (j : Nat) (v2 : Value), j ≤ m ∧ i = .int .i64 j ∧ PenAt wr b v2 (l ++ nums m (ns.take k) ++ num j x) ∧ PenStep w wr b v v2) (fun i _ => m - (intOf i).toNat)
      case atStart => exact ⟨0, v1, Nat.zero_le _, rfl, by rw [num_zero, List.append_nil]; exact HP.out, HS.out⟩
      case round =>
        clear HP HS
        obtain ⟨j, v2, hj, rfl, hP, hS⟩ := hrel
        by_cases hlt2 : j < m
        · have hb := byte_cut x j (by omega)
          have hd := num_succ j x
          obtain ⟨i, z, hi, hz, hi1, hi2, hi3⟩ := byte_info
          obtain ⟨L, hL⟩ : ∃ L, L = l ++ nums m (ns.take k) ++ num j x := ⟨_, rfl⟩
          have hLn : L.length ≤ 70368744177664 := by rw [hL]; simp only [List.length_append, num_length]; omega
          rw [← hL] at hP
          have hnew : l ++ nums m (ns.take k) ++ num (j + 1) x = L ++ [byteU (u64 x) j] := by rw [hd, ← List.append_assoc, ← hL]
          have HNEW := Lib.hid hnew
          clear hd hL hnew
          obtain ⟨p, hp⟩ : ∃ p, p = 8 * j := ⟨_, rfl⟩
          rw [← hp] at hb
          replace hb : IntKind.u8.wrap (x / 2 ^ p) = ((byteU (u64 x) j).toNat : Int) := by rw [IntKind.wrap_u8]; exact hb
          generalize byteU (u64 x) j = y at *
          have c1 := hP.c0
          have hne : some b ≠ v2.ownBlock := fun e => by have := (hP.ownLt e.symm).1; omega
          have hPl := hP.lt
          have h63 : L.length + 1 ≤ maxLen := by unfold maxLen; omega
          have hby : (L.length + 1) * 1 ≤ 140737488355328 := by omega
          have hbase : b + 1 ≤ ((wr.alloc (.cells #[.int .u8 (y.toNat : Int)] 5)).drew).heap.size := by show b + 1 ≤ (wr.alloc _).heap.size; rw [World.size_alloc]; omega
          have e1 : IntKind.i64.wrap (8 * (j : Int)) = (p : Int) := (IntWalk.i64_in _ (by omega)).trans (by omega)
          have e2 : (0 : Int) ≤ (p : Int) := Int.natCast_nonneg _
          have e3 : (p : Int) ≤ 64 := by omega
          have hm8 := hm.2
          clear hp hm
          go_wp2_with fail
          go_region_law
            ((refine step_append_lies _ (by rfl) _ _ 118 (by rfl) (b + 1) 5 i z 1 1 Tryz.underlying118 hi hz hi1 hi2 hi3 (by decide) v2 L.length (Lib.byteCells L) (by rfl) ((hP.own.alloc _).drew)
                  ⟨wr.heap.size, 0, none⟩ 1 1 [.int .u8 (y.toNat : Int)] (by rfl) (by rfl) (World.news_of_block (cs := #[.int .u8 (y.toNat : Int)]) (t := 5) (fr := (0, 0)) (heap_alloc_new wr _)) (by simp [Value.oneCell']) (by decide) h63 hby hbase (wr.heap.size + 1) (by show (wr.alloc _).heap.size = _; rw [World.size_alloc]) ?_; intro g cap w4 hown4 hgr4 hat4 hlt4; have hc4 := gb_has hgr4 ((hP.cell.alloc _).drew) hne; have c4 := hc4.cell 0; have f4 := hc4.free 0))
          all_goals
            have hBd : Below wr.heap.size wr ((wr.alloc (.cells #[.int .u8 (y.toNat : Int)] 5)).drew) := ((Below.refl _ _).alloc (Nat.le_refl _) _).drew
            obtain ⟨hP5, hS5⟩ := hP.put (x := [y]) hBd hown4 hgr4 (fun k' hk' => by
              rcases hat4 with e | e
              · exact .inl (e.trans hk')
              · obtain rfl : g = k' := Option.some.inj hk'
                exact .inr (by omega))
            go_wp2_with fail
            go_roundw
            case rel => exact ⟨j + 1, _, by omega, by go_num, by rw [HNEW.out]; exact hP5, hS.trans hS5⟩
            case measure => simp [intOf]; omega
        · obtain rfl : j = m := by omega
          go_wp2_with fail
          go_roundw
          case rel => exact ⟨k + 1, v2, by omega, by go_num, by rw [HNX.out, ← List.append_assoc]; exact hP, hS⟩
          case measure => simp [intOf]; omega
    · obtain rfl : k = n := by omega
      rw [HN.out, List.take_length] at hP
      go_wp2_with fail
      go_end0
      exact ⟨v1, rfl, hP, hS⟩
end Go.Proofs.YthcebnfdapcllaaGreatDoor
