/-
  Texts of this seat, one behind the other.
-/
import Derived.Test.YtomegahohiijcaaDoorBunQ11
import Derived.Test.YtomegahohiijcaaDoorZPgBit
/-
  Give.
-/
namespace Go.Proofs.YtomegahohiijcaaDoor.An
open Go.RowKit Mem Sc NN.Rg2
open Pg (Pl pbit gv Ws)
set_option maxRecDepth 100000
theorem give_nil (hh : Int) (a : Option Addr) (n c : Nat) (w : World) : Calls Tryd.prog 15 #[.pointer none, .int .i64 hh, .slice a n c] w fun r w' => r = .returned (.int .i64 0) ∧ w = w' := by
  go_enter Tryd.func15, Tryd.ntmps15
  go_wp2_with fail
  go_ret
  exact ⟨rfl, rfl⟩
section
variable {w : World} {ops : Array Oper} {rest : List Oper} {o : Oper} {a : Act} {Q : Exit → Act → World → Prop}
theorem pl_load_mid (hgd : o.guard = none) (x : Operand) (ho : o.op = .load 23 x) (g : Nat) (hx : a.eval x = .pointer (some ⟨g, 0, none⟩)) (y : Pl) (hg : w.rangeAt g 0 (plA y).toList)
    (h : wpList Tryd.prog ops Q rest (a.put o.dst (.agg (plA y))) w) : wpList Tryd.prog ops Q (o :: rest) a w :=
  wpList_load_mid hgd 23 x ho g 0 hx (plA y).toList _ hg Tryd.underlying23 rfl plinfo h
theorem pl_load_g (hw : Region.wanted o (yielded ops a.tmps) = true) (x : Operand) (ho : o.op = .load 23 x) (g : Nat) (hx : a.eval x = .pointer (some ⟨g, 0, none⟩)) (y : Pl) (hg : PlAt w g y)
    (h : wpList Tryd.prog ops Q rest (a.put o.dst (.agg (plA y))) w) : wpList Tryd.prog ops Q (o :: rest) a w :=
  BigFrame.wpList_want hw fun _ hK => wp_load_row 23 x ho g hx 23 (plA y) (0, 0) _ (Has.out hg) Tryd.underlying23 rfl plinfo (hK _ _ h)
end
/-- a bit is written, in a region that reads ahead of it -/
def WrS (w3 w : World) (b : Nat) (v : Value) (x : Pl) (bs : List Bool) (m : Nat) (y : Bool) (b1 : Bool) (w' : World) : Prop := (b1 = false → Below w3.heap.size w3 w') ∧ (b1 = true → ∃ v', BookAt w' b v' x (bs ++ [y]) m ∧ PenStep w w' b v v')
theorem step_below {w w' : World} {b : Nat} {v v' : Value} {x : Pl} {bs : List Bool} {m : Nat} (h : PenStep w w' b v v') (hb : BookAt w b v x bs m) : Below b w w' :=
  ⟨h.os, h.tape, h.output, h.size, fun k hk => h.block k (by have := hb.lt; omega) (by omega) (fun e => by have := (hb.ownLt e).1; omega)⟩
set_option maxHeartbeats 4000000 in
theorem give_at {w : World} {b : Nat} {v : Value} {x : Pl} {bs : List Bool} {m : Nat} (h : BookAt w b v x bs m) (hh : Int) (a : Option Addr) (ls : List (List UInt8)) (n c : Nat) (hn : n = ls.length) (h32 : ∀ y ∈ ls, y.length = 32) (hA : NamesAt w a ls) (hap : 0 < ls.length → Apart b v a) (hT : ∀ w', Below b w w' → Tab w')
    (h1 : -2199023255552 ≤ hh) (h2 : hh ≤ 2199023255552) (h3 : n ≤ 1048576) (h4 : bs.length + n ≤ 1099511627776) :
    Calls Tryd.prog 15 #[.pointer (some ⟨b, 0, none⟩), .int .i64 hh, .slice a n c] w fun r w' => r = .returned (.int .i64 ((gv x hh ls).length : Int)) ∧ ∃ v', BookAt w' b v' x (bs ++ gv x hh ls) m ∧ PenStep w w' b v v' := by
  have HN := Lib.hid hn
  have HA := Lib.hid hA
  have HP := Lib.hid hap
  have H32 := Lib.hid h32
  have HT := Lib.hid hT
  have H := Lib.hid h
  have c4 := h.c4
  obtain ⟨n0, hn0⟩ : ∃ n0, bs.length = n0 := ⟨_, rfl⟩
  rw [hn0] at c4 h4
  have HN0 := Lib.hid hn0
  obtain ⟨q, hq⟩ : ∃ q, (gv x hh ls).length = q := ⟨_, rfl⟩
  rw [hq]
  have hql : q ≤ n := by rw [← hq, hn]; exact Pg.gv_le x ls hh
  have HQ := Lib.hid hq
  clear hn hA hap h32 hT hn0 hq
  go_enter Tryd.func15, Tryd.ntmps15
  go_wp2_with fail
  clear c4
  go_loopw [18] (fun i wr => ∃ (k : Nat) (v1 : Value), k ≤ n ∧ i = .int .i64 (k : Int) ∧ BookAt wr b v1 x (bs ++ gv x hh (ls.take k)) m ∧ PenStep w wr b v v1) (fun i _ => n - (intOf i).toNat)
  case atStart => exact ⟨0, v, Nat.zero_le _, rfl, by simpa [gv] using h, PenStep.refl _ _ _⟩
  case round =>
    clear h
    obtain ⟨k, v1, hk, rfl, hB, hS⟩ := hrel
    by_cases hlt : k < n
    · have hkl : k < ls.length := by rw [← HN.out]; exact hlt
      obtain ⟨ab, ao, rfl, habl, hc⟩ := HA.out (by omega)
      obtain ⟨hab, hav⟩ := HP.out (by omega) _ rfl
      obtain ⟨hx32, hcx⟩ := hc k hkl
      have hr : wr.rangeAt ab (ao + k * 32) (Lib.byteCells ls[k]) := fun j u hu => (hS.cell (a := ⟨ab, ao + k * 32 + j, none⟩) habl hab hav).trans (hcx j u hu)
      have hnx := Pg.gv_take x hh ls k hkl
      have hle : (bs ++ gv x hh (ls.take k)).length ≤ n0 + k := by
        have := Pg.gv_le x (ls.take k) hh
        rw [List.length_take, Nat.min_eq_left (by omega)] at this
        rw [List.length_append, HN0.out]; omega
      generalize ls[k] = y at *
      obtain ⟨bs1, hbs1⟩ : ∃ bs1, bs1 = bs ++ gv x hh (ls.take k) := ⟨_, rfl⟩
      rw [← hbs1] at hB hle
      obtain ⟨hk1, hhk⟩ : ∃ hk1, hh + (k : Int) = hk1 := ⟨_, rfl⟩
      have hwr : IntKind.i64.wrap (hh + (k : Int)) = hk1 := by rw [IntKind.wrap_i64]; omega
      rw [hhk] at hnx
      obtain ⟨d, hd⟩ : ∃ d, x.due hk1 = d := ⟨_, rfl⟩
      rw [hd] at hnx
      have KD := Lib.hid (fun w' => due_at x hk1 w')
      rw [hd] at KD
      have HNX : Hid (bs ++ gv x hh (ls.take (k + 1)) = bs1 ++ (if d = true then [pbit x.s y] else [])) := Lib.hid (by rw [hnx, ← List.append_assoc, hbs1])
      have hsx : (Lib.byteCells y).length = 32 := by rw [Lib.byteCells_length, hx32]
      have HX := Lib.hid hsx
      have hone := bytesV_one y
      have HS32 := Lib.hid (hv_size hx32)
      have h0s : h0.size = 32 := rfl
      have H0 := Lib.hid h0s
      have HX32 := Lib.hid hx32
      have HS := Lib.hid hS
      have hSB := step_below hS H.out
      have HB := Lib.hid hB
      clear hsx hc hcx hnx hbs1 hhk h0s hx32 hd hS hB
      go_upto_region 7 with (first
        | (with_reducible refine hl_load_mid rfl _ rfl ab (ao + k * 32) rfl y hr HX.out ?_)
        | (with_reducible refine hl_store rfl _ _ rfl _ _ (bytesV y) rfl rfl rfl HS32.out hone h0 (h0_new _ _) H0.out ?_))
      generalize hw3 : World.setRow _ _ _ = w3
      have hX3 : Has w3 wr.heap.size (bytesV y) 25 := by rw [← hw3]; exact (h0_new _ _).row _
      have hB3 : Below wr.heap.size wr w3 := by rw [← hw3]; exact below_setRow ((Below.refl _ _).alloc (Nat.le_refl _) _) (Nat.le_refl _) _
      clear hw3
      obtain ⟨bX, hbX⟩ : ∃ bX, bX = wr.heap.size := ⟨_, rfl⟩
      rw [← hbX] at hX3 ⊢
      have hlX := hX3.lt
      clear hbX
      have hP3 := (HB.out.below hB3).plan
      go_wp2_with (with_reducible refine pl_load_mid rfl _ rfl b rfl x hP3 ?_)
      refine (KD.out _).mono ?_
      rintro r w4 ⟨rfl, hb4⟩
      replace hX3 := below_has hb4 hX3 hlX
      replace hB3 := hB3.trans (hb4.mono hB3.size)
      have HX4 := Lib.hid hX3
      have hlX4 := hX3.lt
      have HB4 := Lib.hid (HB.out.below hB3)
      have HSW4 := Lib.hid (HS.out.trans (PenStep.below hB3 (PenStep.refl _ _ _)))
      clear KD hb4 hP3 hlX hX3
      cases d
      · have HNX2 : Hid (bs ++ gv x hh (ls.take (k + 1)) = bs1) := Lib.hid (by rw [HNX.out]; simp)
        go_wp2_with fail
        go_roundw
        case rel => exact ⟨k + 1, v1, by omega, by go_num, by rw [HNX2.out]; exact HB4.out, HSW4.out⟩
        case measure => simp [intOf]; omega
      · have HNX2 : Hid (bs ++ gv x hh (ls.take (k + 1)) = bs1 ++ [pbit x.s y]) := Lib.hid (by rw [HNX.out]; simp)
        have KB : ∀ w', Below w4.heap.size w4 w' → Calls Tryd.prog 12 #[.agg (plA x), .agg (bytesV y)] w' fun r w'' => r = .returned (.bool (pbit x.s y)) ∧ Below w'.heap.size w' w'' := fun w' hb => bit_at x y HX32.out w' (HT.out _ (hSB.trans ((hB3.trans (hb.mono hB3.size)).mono (Nat.le_of_lt HB.out.lt))))
        generalize pbit x.s y = z at *
        have KW : ∀ w', Below w4.heap.size w4 w' → Calls Tryd.prog 27 #[.pointer (some ⟨b, 0, none⟩), .bool z] w' fun r w'' => r = .returned (.tuple #[]) ∧ ∃ v', BookAt w'' b v' x (bs1 ++ [z]) m ∧ PenStep w w'' b v v' := fun w' hb => (book_write (HB4.out.below hb) (by omega) z).mono fun r w'' ⟨h1, v', h2, h3⟩ => ⟨h1, v', h2, HSW4.out.trans (PenStep.below hb h3)⟩
        have KI : ∀ w', Below w4.heap.size w4 w' → w'.rangeAt bX 0 (Lib.byteCells y) := fun w' hb j u hu => by
          rw [Has.cell (below_has hb HX4.out hlX4) (0 + j), ← hu, Nat.zero_add, ← Array.getElem?_toList, bytesV_list]
        have KP : ∀ w', Below w4.heap.size w4 w' → w'.rangeAt b 0 (plA x).toList := fun w' hb => (HB4.out.below hb).plan
        have HKB := Lib.hid KB
        have HKW := Lib.hid KW
        have HKI := Lib.hid KI
        have HKP := Lib.hid KP
        clear KB KW KI KP
        go_upto_region 8 with fail
        refine wp_tab (fun b1 _ w' => WrS w4 w b v x bs1 m z b1 w') 7 99 [4, 5, 6, 7] [.pointer (some ⟨b, 0, none⟩), .pointer (some ⟨b, 0, none⟩), .pointer (some ⟨b, 0, none⟩), .pointer (some ⟨b, 0, none⟩), .agg (plA x), .agg (bytesV y), .bool z, .tuple #[]] ⟨fun _ => (Below.refl _ _).drew, fun h => by cases h⟩
          ⟨fun b1 b2 w' f1 _ hC => ?_, fun b1 b2 w' f1 _ hC => ?_, fun b1 b2 w' f1 _ hC => ?_, fun b1 b2 w' f1 _ hC => ?_, trivial⟩ ?_
        · obtain rfl := f1.no (by kernel_rfl)
          exact .val (ex_load_pl rfl rfl (HKP.out _ (hC.1 rfl))) hC
        · obtain rfl := f1.no (by kernel_rfl)
          exact .val (ex_load_hl rfl rfl (HKI.out _ (hC.1 rfl)) HX32.out) hC
        · obtain rfl := f1.no (by kernel_rfl)
          exact .call ((HKB.out _ (hC.1 rfl)).mono fun e w'' h => ⟨h.1, fun _ => (hC.1 rfl).trans (h.2.mono (hC.1 rfl).size), fun h => by cases h⟩)
        · obtain rfl := f1.no (by kernel_rfl)
          exact .call ((HKW.out _ (hC.1 rfl)).mono fun e w'' h => ⟨h.1, (fun h => by cases h), fun _ => h.2⟩)
        intro w5 hC
        obtain ⟨v2, hB5, hS5⟩ := hC.2 rfl
        have HB5 := Lib.hid hB5
        have HS5 := Lib.hid hS5
        clear hC hB5 hS5 HKB HKW HKI HKP
        simp only [finT, List.set_cons_zero, List.set_cons_succ, List.tail_cons, List.headD_cons]
        go_wp2_with fail
        go_roundw
        case rel => exact ⟨k + 1, v2, by omega, by go_num, by rw [HNX2.out]; exact HB5.out, HS5.out⟩
        case measure => simp [intOf]; omega
    · obtain rfl : k = n := by omega
      rw [HN.out, List.take_length] at hB
      have c4 := hB.c4
      have hl : (bs ++ gv x hh ls).length = n0 + q := by rw [List.length_append, HN0.out, HQ.out]
      rw [hl] at c4
      have hw : IntKind.i64.wrap (((n0 + q : Nat) : Int) - (n0 : Int)) = (q : Int) := by rw [IntKind.wrap_i64]; omega
      generalize n0 + q = n2 at *
      have HB9 := Lib.hid hB
      clear hB hl
      go_wp2_with fail
      go_ret
      exact ⟨rfl, v1, HB9.out, hS⟩
end Go.Proofs.YtomegahohiijcaaDoor.An
/-
  Meet.
-/
namespace Go.Proofs.YtomegahohiijcaaDoor.An
open Go.RowKit Mem Sc NN.Rg2
open Pg (Pl pbit gv Ws)
set_option maxRecDepth 100000
theorem meet_nil (hh : Int) (id : List UInt8) (w : World) : Calls Tryd.prog 14 #[.pointer none, .int .i64 hh, .agg (bytesV id)] w fun r w' => r = .returned (.bool false) ∧ Below w.heap.size w w' := by
  have hone := bytesV_one id
  go_enter Tryd.func14, Tryd.ntmps14
  go_upto_region 1 with fail
  generalize hw0 : World.alloc _ _ = v0
  have hB : Below w.heap.size w v0 := by rw [← hw0]; exact (Below.refl _ _).alloc (Nat.le_refl _) _
  clear hw0
  go_wp2_with fail
  go_ret
  exact ⟨rfl, hB⟩
/-- whether a name is met -/
def mt (x : Pl) (bs : List Bool) (m : Nat) (hh : Int) (id : List UInt8) : Bool := !x.due hh || (bs[m]? == some (pbit x.s id))
set_option maxHeartbeats 4000000 in
theorem meet_at {w : World} {b : Nat} {v : Value} {x : Pl} {bs : List Bool} {m : Nat} (h : BookAt w b v x bs m) (hh : Int) (id : List UInt8) (hid : id.length = 32) (hT : Tab w) :
    Calls Tryd.prog 14 #[.pointer (some ⟨b, 0, none⟩), .int .i64 hh, .agg (bytesV id)] w fun r w' => r = .returned (.bool (mt x bs m hh id)) ∧ BookAt w' b v x bs (m + if x.due hh && mt x bs m hh id then 1 else 0) ∧ PenStep w w' b v v := by
  have hmt : mt x bs m hh id = (!x.due hh || (bs[m]? == some (pbit x.s id))) := rfl
  obtain ⟨g, hg⟩ : ∃ g, mt x bs m hh id = g := ⟨_, rfl⟩
  obtain ⟨d, hd⟩ : ∃ d, x.due hh = d := ⟨_, rfl⟩
  obtain ⟨z, hz⟩ : ∃ z, pbit x.s id = z := ⟨_, rfl⟩
  have KD := Lib.hid (fun w' => due_at x hh w')
  have KB := Lib.hid (fun w' hT => bit_at x id hid w' hT)
  rw [hz] at KB
  rw [hd] at KD
  rw [hg, hd, hz] at hmt
  rw [hg, hd]
  obtain ⟨m2, hm2⟩ : ∃ m2, (m + if d && g then 1 else 0) = m2 := ⟨_, rfl⟩
  rw [hm2]
  have HM2 : Hid (m2 = if d && g then m + 1 else m) := Lib.hid (by rw [← hm2]; split <;> rfl)
  have HM := Lib.hid hmt
  have H := Lib.hid h
  have HT := Lib.hid hT
  have hone := bytesV_one id
  clear hz hd hg hmt h hT hm2
  go_enter Tryd.func14, Tryd.ntmps14
  go_upto_region 1 with fail
  generalize hw0 : World.alloc _ _ = v0
  have hB : Below w.heap.size w v0 := by rw [← hw0]; exact (Below.refl _ _).alloc (Nat.le_refl _) _
  have hI : Has v0 w.heap.size (bytesV id) 25 := by rw [← hw0]; exact Has.new _ _
  clear hw0
  obtain ⟨bI, hbI⟩ : ∃ bI, bI = w.heap.size := ⟨_, rfl⟩
  rw [← hbI] at hI ⊢
  clear hbI
  have hP := (H.out.below hB).plan
  go_wp2_with (with_reducible refine pl_load_mid rfl _ rfl b rfl x hP ?_)
  refine (KD.out _).mono ?_
  rintro r v1 ⟨rfl, hb⟩
  replace hI := below_has hb hI hI.lt
  replace hB := hB.trans (hb.mono hB.size)
  clear hb hP KD
  cases d
  · obtain rfl : g = true := by rw [HM.out]; rfl
    obtain rfl : m = m2 := HM2.out.symm
    go_wp2_with fail
    go_ret
    exact ⟨rfl, H.out.below hB, PenStep.below hB (PenStep.refl _ _ _)⟩
  · have hB1 := H.out.below hB
    have KL : ∀ w', Below v1.heap.size v1 w' → Calls Tryd.prog 17 #[.pointer (some ⟨b, 0, none⟩)] w' fun r w'' => r = .returned (.int .i64 ((bs.length - m : Nat) : Int)) ∧ Below w'.heap.size w' w'' := fun w' hb => left_at (hB1.below hb)
    have HKL := Lib.hid KL
    have HB1 := Lib.hid hB1
    have hm := hB1.met
    clear KL hB1
    by_cases hl : bs.length = m
    · obtain rfl : g = false := by
        rw [HM.out, List.getElem?_eq_none (by omega)]; rfl
      obtain rfl : m = m2 := HM2.out.symm
      have hl0 : ((bs.length - m : Nat) : Int) = 0 := by omega
      rw [hl0] at HKL
      go_upto_region 5 with fail
      refine wp_tab (fun _ _ w' => Below v1.heap.size v1 w') 99 98 [1] [.pointer (some ⟨b, 0, none⟩), .int .i64 0, .bool true, .bool true, undef, undef, undef, undef, undef, undef, undef, undef, undef, undef, undef, undef, undef, .bool true] (Below.refl _ _).drew ⟨fun _ _ w' _ _ hC => .call ((HKL.out _ hC).mono fun e w'' h => ⟨h.1, hC.trans (h.2.mono hC.size)⟩), trivial⟩ ?_
      intro w5 hC
      have hB5 := hB.trans (hC.mono hB.size)
      clear hC hI HKL
      simp only [finT, List.set_cons_zero, List.set_cons_succ, List.tail_cons, List.headD_cons]
      go_wp2_with fail
      go_ret
      exact ⟨rfl, H.out.below hB5, PenStep.below hB5 (PenStep.refl _ _ _)⟩
    · have hml : m < bs.length := by omega
      obtain ⟨l, hll⟩ : ∃ l : Int, ((bs.length - m : Nat) : Int) = l := ⟨_, rfl⟩
      have hl0 : (l == (0 : Int)) = false := by rw [← hll, beq_eq_false_iff_ne]; omega
      rw [hll] at HKL
      have KW : ∀ w', Below v1.heap.size v1 w' → Calls Tryd.prog 26 #[.pointer (some ⟨b, 0, none⟩), .int .i64 (m : Int)] w' fun r w'' => r = .returned (.bool bs[m]) ∧ w' = w'' := fun w' hb => wbit_at (HB1.out.below hb) m hml
      have hgz : g = (bs[m] == z) := by rw [HM.out, List.getElem?_eq_getElem hml, Bool.not_true, Bool.false_or]; rfl
      have HKW := Lib.hid KW
      generalize bs[m] = y at *
      obtain ⟨ne, hne⟩ : ∃ ne, (y != z) = ne := ⟨_, rfl⟩
      have hgn : g = !ne := by rw [hgz, ← hne]; cases y <;> cases z <;> rfl
      subst hgn
      have KI : ∀ w', Below v1.heap.size v1 w' → w'.rangeAt bI 0 (Lib.byteCells id) := fun w' hb j u hu => by
        rw [Has.cell (below_has hb hI hI.lt) (0 + j), ← hu, Nat.zero_add, ← Array.getElem?_toList, bytesV_list]
      have HKI := Lib.hid KI
      have KT : ∀ w', Below v1.heap.size v1 w' → Tab w' := fun w' hb => HT.out.below (hB.trans (hb.mono hB.size))
      have HKT := Lib.hid KT
      clear KI KW KT hll hgz hI
      go_upto_region 5 with fail
      refine wp_tab (fun _ _ w' => Below v1.heap.size v1 w') 99 98 [1, 2, 8, 9, 13, 14, 15, 16] [.pointer (some ⟨b, 0, none⟩), .int .i64 l, .bool false, .bool false, .pointer (some ⟨b, 0, none⟩), .pointer (some ⟨b, 0, none⟩), .pointer (some ⟨b, 0, none⟩), .pointer (some ⟨b, 5, none⟩), .int .i64 (m : Int), .bool y, .pointer (some ⟨b, 0, none⟩), .pointer (some ⟨b, 0, none⟩), .pointer (some ⟨b, 0, none⟩), .agg (plA x), .agg (bytesV id), .bool z, .bool ne, .bool ne] (Below.refl _ _).drew
        ⟨fun _ _ w' _ _ hC => .call ((HKL.out _ hC).mono fun e w'' h => ⟨h.1, hC.trans (h.2.mono hC.size)⟩), fun _ _ w' _ _ hC => .val (ex_eqi rfl rfl rfl hl0) hC, fun _ _ w' _ _ hC => .val (ex_load_of rfl rfl (ld_i (HB1.out.below hC).c5)) hC, fun _ _ w' _ _ hC => .call ((HKW.out _ hC).mono fun e w'' h => ⟨h.1, h.2 ▸ hC⟩), fun _ _ w' _ _ hC => .val (ex_load_pl rfl rfl (HB1.out.below hC).plan) hC, fun _ _ w' _ _ hC => .val (ex_load_hl rfl rfl (HKI.out _ hC) hid) hC, fun _ _ w' _ _ hC => .call ((KB.out _ (HKT.out _ hC)).mono fun e w'' h => ⟨h.1, hC.trans (h.2.mono hC.size)⟩), fun _ _ w' _ _ hC => .val (ex_neqb rfl rfl rfl hne) hC, trivial⟩ ?_
      intro w5 hC
      have hB5 := hB.trans (hC.mono hB.size)
      have hK5 := H.out.below hB5
      have c5 := hK5.c5
      have f5 := hK5.cell.free 5
      have hw : IntKind.i64.wrap ((m : Int) + 1) = ((m + 1 : Nat) : Int) := by rw [IntKind.wrap_i64]; have := hK5.few; omega
      obtain ⟨m1, hm1⟩ : ∃ m1, m + 1 = m1 := ⟨_, rfl⟩
      rw [hm1] at hw
      have HM1 := Lib.hid hm1
      have HK5 := Lib.hid hK5
      have HB5 := Lib.hid hB5
      clear hC HKL HKW HKI HKT KB hm1 hK5 hB5 hne
      simp only [finT, List.set_cons_zero, List.set_cons_succ, List.tail_cons, List.headD_cons]
      cases ne
      · have hm2 : m2 = m1 := HM2.out.trans HM1.out
        clear HM2
        go_wp2_with fail
        go_ret
        refine ⟨rfl, ?_, pen_set (PenStep.below HB5.out (PenStep.refl _ _ _)) (.inl rfl)⟩
        obtain ⟨ws, ho, hw, hr⟩ := HK5.out.own
        have hk := BkW.meet ⟨HK5.out.cell, ho⟩ m1
        rw [hm2]
        exact ⟨hk.cell, ⟨ws, hk.own, hw, hr⟩, HK5.out.good, by have := HM1.out; omega, HK5.out.few⟩
      · obtain rfl : m = m2 := HM2.out.symm
        go_wp2_with fail
        go_ret
        exact ⟨rfl, HK5.out, PenStep.below HB5.out (PenStep.refl _ _ _)⟩
end Go.Proofs.YtomegahohiijcaaDoor.An
/-
  What the document tells is so.
-/
namespace Go.Proofs.YtomegahohiijcaaDoor.An
open Go.RowKit Mem Sc NN.Rg2
open Pg (Pl pbit gv Ws)
set_option maxRecDepth 100000
def z32 : List UInt8 := List.replicate 32 0
theorem z32_len : z32.length = 32 := rfl
theorem two_names (w : World) (x y : List UInt8) (hx : x.length = 32) (hy : y.length = 32) : NamesAt (w.alloc (.cells (bytesV (x ++ y)) 25)) (some ⟨w.heap.size, 0, none⟩) [x, y] := fun _ => by
  have hN : Has (w.alloc (.cells (bytesV (x ++ y)) 25)) w.heap.size (bytesV (x ++ y)) 25 := Has.new _ _
  refine ⟨w.heap.size, 0, rfl, by rw [World.size_alloc]; omega, fun i hi => ?_⟩
  have h2 : i < 2 := hi
  obtain rfl | rfl : i = 0 ∨ i = 1 := by omega
  · refine ⟨hx, fun j u hu => ?_⟩
    rw [hN.cell]
    change (Lib.byteCells x)[j]? = some u at hu
    rw [show bytesV (x ++ y) = (Lib.byteCells (x ++ y)).toArray from Array.toList_inj.1 (by rw [bytesV_list]), Lib.byteCells_append, List.getElem?_toArray, show 0 + 0 * 32 + j = j by omega,
      List.getElem?_append_left (List.getElem?_eq_some_iff.1 hu).1]
    exact hu
  · refine ⟨hy, fun j u hu => ?_⟩
    rw [hN.cell]
    change (Lib.byteCells y)[j]? = some u at hu
    rw [show bytesV (x ++ y) = (Lib.byteCells (x ++ y)).toArray from Array.toList_inj.1 (by rw [bytesV_list]), Lib.byteCells_append, List.getElem?_toArray, show 0 + 1 * 32 + j = 32 + j by omega,
      List.getElem?_append_right (by rw [Lib.byteCells_length, hx]; omega), Lib.byteCells_length, hx, Nat.add_sub_cancel_left]
    exact hu
def pl41 : Pl := ⟨0, 4, 1⟩
theorem gv41 : (gv pl41 0 [z32, z32]).length = 1 := by decide
theorem new41 (w : World) : Calls Tryd.prog 8 #[.agg #[.int .i64 0, .int .i64 4, .int .i64 1]] w fun r w' => ∃ b, r = .returned (.tuple #[.pointer (some ⟨b, 0, none⟩), .int .i64 0]) ∧ w.heap.size ≤ b ∧ BookAt w' b (.slice none 0 0) pl41 [] 0 ∧ Below w.heap.size w w' := new_yes pl41 (by decide) w
set_option maxHeartbeats 4000000 in
theorem alive18 (w : World) (hT : Tab w) : Calls Tryd.prog 7 #[] w fun e w' => e = .returned (.bool true) ∧ Below w.heap.size w w' := by
  have KN := Lib.hid (fun w' => new41 w')
  have HT := Lib.hid hT
  clear hT
  go_enter Tryd.func7, Tryd.ntmps7
  go_wp2_with fail
  refine (KN.out _).mono ?_
  rintro r w1 ⟨b, rfl, hbs, hK, hB⟩
  clear KN
  have HK := Lib.hid hK
  clear hK
  go_wp2_with fail
  have hBa : Below w1.heap.size w1 (w1.alloc (.cells (bytesV (z32 ++ z32)) 25)) := (Below.refl _ _).alloc (Nat.le_refl _) _
  have KV : Calls Tryd.prog 15 #[.pointer (some ⟨b, 0, none⟩), .int .i64 0, .slice (some ⟨w1.heap.size, 0, none⟩) 2 2] (w1.alloc (.cells (bytesV (z32 ++ z32)) 25)) fun r w' => r = .returned (.int .i64 ((gv pl41 0 [z32, z32]).length : Int)) ∧ ∃ v', BookAt w' b v' pl41 ([] ++ gv pl41 0 [z32, z32]) 0 ∧ PenStep (w1.alloc (.cells (bytesV (z32 ++ z32)) 25)) w' b (.slice none 0 0) v' :=
    give_at (HK.out.below hBa) 0 (some ⟨w1.heap.size, 0, none⟩) [z32, z32] 2 2 rfl (fun y hy => by simp at hy; rw [hy]; rfl) (two_names w1 z32 z32 rfl rfl) (fun _ p hp => by
      obtain rfl := Option.some.inj hp
      exact ⟨fun e => by have := HK.out.lt; have e' : w1.heap.size = b := e; omega, by simp [Value.ownBlock]⟩) (fun w' hb => HT.out.below ((hB.trans (hBa.mono hB.size)).trans (hb.mono hbs))) (by decide) (by decide) (by decide) (by decide)
  have HKV := Lib.hid KV
  have HBa := Lib.hid hBa
  clear KV hBa
  refine (HKV.out).mono ?_
  rintro r w2 ⟨rfl, v', hK2, hS2⟩
  rw [gv41]
  have hlen : ([] ++ gv pl41 0 [z32, z32]).length = 1 := by rw [List.nil_append]; exact gv41
  have KG := given_at hK2
  have KL := left_at hK2
  rw [hlen] at KG KL
  have hB2 := (hB.trans (HBa.out.mono hB.size)).trans ((step_below hS2 (HK.out.below HBa.out)).mono hbs)
  have HKG := Lib.hid KG
  have HKL := Lib.hid KL
  have HB2 := Lib.hid hB2
  clear KG KL hK2 hS2 hB hB2 HKV HBa hlen HK
  go_wp2_with fail
  refine (HKG.out).mono ?_
  rintro r w3 ⟨rfl, rfl⟩
  go_wp2_with fail
  refine (HKL.out).mono ?_
  rintro r w3 ⟨rfl, hb⟩
  have hB3 := HB2.out.trans (hb.mono HB2.out.size)
  clear hb HKG HKL HB2
  go_wp2_with fail
  go_ret
  exact ⟨rfl, hB3⟩
end Go.Proofs.YtomegahohiijcaaDoor.An
/-
  PledgePlans: the walk.
-/
namespace Go.Proofs.YtomegahohiijcaaDoor.An
open Go.RowKit Mem Sc NN.Rg2
open Pg (Pl pbit gv Ws)
set_option maxRecDepth 100000
set_option maxHeartbeats 8000000 in
theorem plans_walk (x : Pl) (h : Int) (id : List UInt8) (hid : id.length = 32) (w : World) (hT : Tab w) :
    Calls Tryd.prog 3 #[.agg (plA x), .int .i64 h, .agg (bytesV id)] w fun e w' => e = .returned (.bool true) ∧ Below w.heap.size w w' := by
  obtain ⟨g, hg⟩ : ∃ g, x.good = g := ⟨_, rfl⟩
  obtain ⟨d, hd⟩ : ∃ d, x.due h = d := ⟨_, rfl⟩
  obtain ⟨sx, hsx⟩ : ∃ s, x.s = s := ⟨_, rfl⟩
  obtain ⟨px, hpx⟩ : ∃ s, x.p = s := ⟨_, rfl⟩
  obtain ⟨ox, hox⟩ : ∃ s, x.o = s := ⟨_, rfl⟩
  obtain ⟨z, hz⟩ : ∃ z, pbit sx id = z := ⟨_, rfl⟩
  have KG := Lib.hid (fun w' => good_at x w')
  rw [hg] at KG
  have KD := Lib.hid (fun w' => due_at x h w')
  rw [hd] at KD
  have KRD := Lib.hid (fun w' => rdue_at x px ox hpx hox h w')
  rw [hd] at KRD
  have KB := Lib.hid (fun w' hT => bit_at x id hid w' hT)
  rw [hsx, hz] at KB
  have KRB := Lib.hid (fun w' => rbit_at sx id hid w')
  rw [hz] at KRB
  obtain ⟨b1, h1⟩ : ∃ b1, decide ((1 : Int) ≤ px) = b1 := ⟨_, rfl⟩
  obtain ⟨b2, h2⟩ : ∃ b2, decide (px ≤ (64 : Int)) = b2 := ⟨_, rfl⟩
  obtain ⟨b3, h3⟩ : ∃ b3, decide ((0 : Int) ≤ ox) = b3 := ⟨_, rfl⟩
  obtain ⟨b4, h4⟩ : ∃ b4, decide (ox < px) = b4 := ⟨_, rfl⟩
  have hgb : g = (b1 && (b2 && (b3 && b4))) := by rw [← hg, pl_good, hpx, hox, h1, h2, h3, h4]
  have HGB := Lib.hid hgb
  have HG := Lib.hid hg
  have HSX := Lib.hid hsx
  have HPX := Lib.hid hpx
  have HOX := Lib.hid hox
  have KA := Lib.hid (fun w' hT => alive18 w' hT)
  clear hg hd hsx hpx hox hz hgb
  go_enter Tryd.func3, Tryd.ntmps3
  go_upto_region 1 with fail
  generalize hw0 : World.alloc _ _ = v0
  have hB : Below w.heap.size w v0 := by rw [← hw0]; exact ((Below.refl _ _).alloc (Nat.le_refl _) _).alloc (by rw [World.size_alloc]; omega) _
  have hP : PlAt v0 w.heap.size x := by rw [← hw0]; exact Has.alloc (Has.new _ _) _
  have hI : Has v0 (w.heap.size + 1) (bytesV id) 25 := by rw [← hw0]; exact Mem.Has.new1 _ _ _
  have hlt := hI.lt
  clear hw0
  obtain ⟨bP, hbP⟩ : ∃ b, b = w.heap.size := ⟨_, rfl⟩
  rw [← hbP] at hP hI hlt ⊢
  clear hbP
  have hT0 := hT.below hB
  go_wp2_with fail
  refine (KA.out _ hT0).mono ?_
  rintro r v1 ⟨rfl, hb⟩
  have hP1 := hP.on hb (by omega)
  have hI1 := below_has hb hI hlt
  replace hB := hB.trans (hb.mono hB.size)
  have hlt1 := hI1.lt
  have hR1 := hP1.range
  clear hb hP hI KA hlt hT0
  go_upto_region 3 with fail
  cases g
  · have KN := Lib.hid (new_no x HG.out v1)
    go_wp2_with (with_reducible refine pl_load_mid rfl _ rfl bP rfl x hR1 ?_)
    refine (KN.out).mono ?_
    rintro r v2 ⟨rfl, hb⟩
    have hP2 := hP1.on hb (by omega)
    have hI2 := below_has hb hI1 hlt1
    replace hB := hB.trans (hb.mono hB.size)
    have hlt2 := hI2.lt
    have HP : Hid (∀ w', Below v2.heap.size v2 w' → PlAt w' bP x) := Lib.hid fun w' hb => hP2.on hb (by omega)
    have HI : Hid (∀ w', Below v2.heap.size v2 w' → w'.rangeAt (bP + 1) 0 (Lib.byteCells id)) := Lib.hid fun w' hb j u hu => by
      rw [Has.cell (below_has hb hI2 hlt2) (0 + j), ← hu, Nat.zero_add, ← Array.getElem?_toList, bytesV_list]
    have HT : Hid (∀ w', Below v2.heap.size v2 w' → Tab w') := Lib.hid fun w' hb => hT.below (hB.trans (hb.mono hB.size))
    have c0 := HSX.out ▸ hP2.c0
    have c1 := HPX.out ▸ hP2.c1
    have c2 := HOX.out ▸ hP2.c2
    clear hb hP1 hI1 hlt1 hR1 hP2 hI2 KN HG
    cases b1
    · clear HGB
      go_upto_region 5 with fail
      refine wp_tab (fun _ _ w' => Below v2.heap.size v2 w') 99 98 [0, 1, 24, 26, 28, 30, 32, 33, 36, 37, 38, 40, 41, 42, 43] [.agg (plA x), .bool false, .bool false, .bool true, .bool true, .int .i64 1, .bool false, .bool false, .bool true, .bool true, .bool true, .pointer none, .bool false, .bool false, .bool true, .bool true, .bool true, .bool false, .bool false, .int .i64 1, .bool true, .bool true, .bool true, .bool true, .agg (plA x), .int .i64 h, .bool d, .pointer (some ⟨bP, 1, none⟩), .int .i64 px, .pointer (some ⟨bP, 2, none⟩), .int .i64 ox, .int .i64 h, .bool d, .bool true, .bool true, .bool true, .agg (plA x), .agg (bytesV id), .bool z, .pointer (some ⟨bP, 0, none⟩), .int .i64 sx, .agg (bytesV id), .bool z, .bool true, .bool true, .bool true] (Below.refl _ _).drew ⟨fun _ _ w' _ _ hC => ?_, fun _ _ w' _ _ hC => ?_, fun _ _ w' _ _ hC => ?_, fun _ _ w' _ _ hC => ?_, fun _ _ w' _ _ hC => ?_, fun _ _ w' _ _ hC => ?_, fun _ _ w' _ _ hC => ?_, fun _ _ w' _ _ hC => ?_, fun _ _ w' _ _ hC => ?_, fun _ _ w' _ _ hC => ?_, fun _ _ w' _ _ hC => ?_, fun _ _ w' _ _ hC => ?_, fun _ _ w' _ _ hC => ?_, fun _ _ w' _ _ hC => ?_, fun _ _ w' _ _ hC => ?_, trivial⟩ ?_
      · exact .val (ex_load_pl rfl rfl (HP.out _ hC).range) hC
      · exact .call ((KG.out _).mono fun e w'' h => ⟨h.1, hC.trans (h.2.mono hC.size)⟩)
      · exact .val (ex_load_pl rfl rfl (HP.out _ hC).range) hC
      · exact .call ((KD.out _).mono fun e w'' h => ⟨h.1, hC.trans (h.2.mono hC.size)⟩)
      · exact .val (ex_load_of rfl rfl (ld_i (HPX.out ▸ (HP.out _ hC).c1))) hC
      · exact .val (ex_load_of rfl rfl (ld_i (HOX.out ▸ (HP.out _ hC).c2))) hC
      · exact .call ((KRD.out _).mono fun e w'' h => ⟨h.1, h.2 ▸ hC⟩)
      · exact .val (ex_eqb rfl rfl rfl (by simp)) hC
      · exact .val (ex_load_pl rfl rfl (HP.out _ hC).range) hC
      · exact .val (ex_load_hl rfl rfl (HI.out _ hC) hid) hC
      · exact .call ((KB.out _ (HT.out _ hC)).mono fun e w'' h => ⟨h.1, hC.trans (h.2.mono hC.size)⟩)
      · exact .val (ex_load_of rfl rfl (ld_i (HSX.out ▸ (HP.out _ hC).c0))) hC
      · exact .val (ex_load_hl rfl rfl (HI.out _ hC) hid) hC
      · exact .call ((KRB.out _).mono fun e w'' h => ⟨h.1, hC.trans (h.2.mono hC.size)⟩)
      · exact .val (ex_eqb rfl rfl rfl (by simp)) hC
      intro w5 hC
      have hB5 := hB.trans (hC.mono hB.size)
      clear hC KG KD KRD KB KRB HP HI HT
      simp only [finT, List.set_cons_zero, List.set_cons_succ, List.tail_cons, List.headD_cons]
      go_wp2_with fail
      go_ret
      exact ⟨rfl, hB5⟩
    · cases b2
      · clear HGB
        go_upto_region 5 with fail
        refine wp_tab (fun _ _ w' => Below v2.heap.size v2 w') 99 98 [0, 1, 24, 26, 28, 30, 32, 33, 36, 37, 38, 40, 41, 42, 43] [.agg (plA x), .bool false, .bool false, .bool true, .bool true, .int .i64 1, .bool false, .bool false, .bool true, .bool true, .bool true, .pointer none, .bool false, .bool false, .bool true, .bool true, .bool true, .bool false, .bool false, .int .i64 1, .bool true, .bool true, .bool true, .bool true, .agg (plA x), .int .i64 h, .bool d, .pointer (some ⟨bP, 1, none⟩), .int .i64 px, .pointer (some ⟨bP, 2, none⟩), .int .i64 ox, .int .i64 h, .bool d, .bool true, .bool true, .bool true, .agg (plA x), .agg (bytesV id), .bool z, .pointer (some ⟨bP, 0, none⟩), .int .i64 sx, .agg (bytesV id), .bool z, .bool true, .bool true, .bool true] (Below.refl _ _).drew ⟨fun _ _ w' _ _ hC => ?_, fun _ _ w' _ _ hC => ?_, fun _ _ w' _ _ hC => ?_, fun _ _ w' _ _ hC => ?_, fun _ _ w' _ _ hC => ?_, fun _ _ w' _ _ hC => ?_, fun _ _ w' _ _ hC => ?_, fun _ _ w' _ _ hC => ?_, fun _ _ w' _ _ hC => ?_, fun _ _ w' _ _ hC => ?_, fun _ _ w' _ _ hC => ?_, fun _ _ w' _ _ hC => ?_, fun _ _ w' _ _ hC => ?_, fun _ _ w' _ _ hC => ?_, fun _ _ w' _ _ hC => ?_, trivial⟩ ?_
        · exact .val (ex_load_pl rfl rfl (HP.out _ hC).range) hC
        · exact .call ((KG.out _).mono fun e w'' h => ⟨h.1, hC.trans (h.2.mono hC.size)⟩)
        · exact .val (ex_load_pl rfl rfl (HP.out _ hC).range) hC
        · exact .call ((KD.out _).mono fun e w'' h => ⟨h.1, hC.trans (h.2.mono hC.size)⟩)
        · exact .val (ex_load_of rfl rfl (ld_i (HPX.out ▸ (HP.out _ hC).c1))) hC
        · exact .val (ex_load_of rfl rfl (ld_i (HOX.out ▸ (HP.out _ hC).c2))) hC
        · exact .call ((KRD.out _).mono fun e w'' h => ⟨h.1, h.2 ▸ hC⟩)
        · exact .val (ex_eqb rfl rfl rfl (by simp)) hC
        · exact .val (ex_load_pl rfl rfl (HP.out _ hC).range) hC
        · exact .val (ex_load_hl rfl rfl (HI.out _ hC) hid) hC
        · exact .call ((KB.out _ (HT.out _ hC)).mono fun e w'' h => ⟨h.1, hC.trans (h.2.mono hC.size)⟩)
        · exact .val (ex_load_of rfl rfl (ld_i (HSX.out ▸ (HP.out _ hC).c0))) hC
        · exact .val (ex_load_hl rfl rfl (HI.out _ hC) hid) hC
        · exact .call ((KRB.out _).mono fun e w'' h => ⟨h.1, hC.trans (h.2.mono hC.size)⟩)
        · exact .val (ex_eqb rfl rfl rfl (by simp)) hC
        intro w5 hC
        have hB5 := hB.trans (hC.mono hB.size)
        clear hC KG KD KRD KB KRB HP HI HT
        simp only [finT, List.set_cons_zero, List.set_cons_succ, List.tail_cons, List.headD_cons]
        go_wp2_with fail
        go_ret
        exact ⟨rfl, hB5⟩
      · cases b3
        · clear HGB
          go_upto_region 5 with fail
          refine wp_tab (fun _ _ w' => Below v2.heap.size v2 w') 99 98 [0, 1, 24, 26, 28, 30, 32, 33, 36, 37, 38, 40, 41, 42, 43] [.agg (plA x), .bool false, .bool false, .bool true, .bool true, .int .i64 1, .bool false, .bool false, .bool true, .bool true, .bool true, .pointer none, .bool false, .bool false, .bool true, .bool true, .bool true, .bool false, .bool false, .int .i64 1, .bool true, .bool true, .bool true, .bool true, .agg (plA x), .int .i64 h, .bool d, .pointer (some ⟨bP, 1, none⟩), .int .i64 px, .pointer (some ⟨bP, 2, none⟩), .int .i64 ox, .int .i64 h, .bool d, .bool true, .bool true, .bool true, .agg (plA x), .agg (bytesV id), .bool z, .pointer (some ⟨bP, 0, none⟩), .int .i64 sx, .agg (bytesV id), .bool z, .bool true, .bool true, .bool true] (Below.refl _ _).drew ⟨fun _ _ w' _ _ hC => ?_, fun _ _ w' _ _ hC => ?_, fun _ _ w' _ _ hC => ?_, fun _ _ w' _ _ hC => ?_, fun _ _ w' _ _ hC => ?_, fun _ _ w' _ _ hC => ?_, fun _ _ w' _ _ hC => ?_, fun _ _ w' _ _ hC => ?_, fun _ _ w' _ _ hC => ?_, fun _ _ w' _ _ hC => ?_, fun _ _ w' _ _ hC => ?_, fun _ _ w' _ _ hC => ?_, fun _ _ w' _ _ hC => ?_, fun _ _ w' _ _ hC => ?_, fun _ _ w' _ _ hC => ?_, trivial⟩ ?_
          · exact .val (ex_load_pl rfl rfl (HP.out _ hC).range) hC
          · exact .call ((KG.out _).mono fun e w'' h => ⟨h.1, hC.trans (h.2.mono hC.size)⟩)
          · exact .val (ex_load_pl rfl rfl (HP.out _ hC).range) hC
          · exact .call ((KD.out _).mono fun e w'' h => ⟨h.1, hC.trans (h.2.mono hC.size)⟩)
          · exact .val (ex_load_of rfl rfl (ld_i (HPX.out ▸ (HP.out _ hC).c1))) hC
          · exact .val (ex_load_of rfl rfl (ld_i (HOX.out ▸ (HP.out _ hC).c2))) hC
          · exact .call ((KRD.out _).mono fun e w'' h => ⟨h.1, h.2 ▸ hC⟩)
          · exact .val (ex_eqb rfl rfl rfl (by simp)) hC
          · exact .val (ex_load_pl rfl rfl (HP.out _ hC).range) hC
          · exact .val (ex_load_hl rfl rfl (HI.out _ hC) hid) hC
          · exact .call ((KB.out _ (HT.out _ hC)).mono fun e w'' h => ⟨h.1, hC.trans (h.2.mono hC.size)⟩)
          · exact .val (ex_load_of rfl rfl (ld_i (HSX.out ▸ (HP.out _ hC).c0))) hC
          · exact .val (ex_load_hl rfl rfl (HI.out _ hC) hid) hC
          · exact .call ((KRB.out _).mono fun e w'' h => ⟨h.1, hC.trans (h.2.mono hC.size)⟩)
          · exact .val (ex_eqb rfl rfl rfl (by simp)) hC
          intro w5 hC
          have hB5 := hB.trans (hC.mono hB.size)
          clear hC KG KD KRD KB KRB HP HI HT
          simp only [finT, List.set_cons_zero, List.set_cons_succ, List.tail_cons, List.headD_cons]
          go_wp2_with fail
          go_ret
          exact ⟨rfl, hB5⟩
        · cases b4
          · clear HGB
            go_upto_region 5 with fail
            refine wp_tab (fun _ _ w' => Below v2.heap.size v2 w') 99 98 [0, 1, 24, 26, 28, 30, 32, 33, 36, 37, 38, 40, 41, 42, 43] [.agg (plA x), .bool false, .bool false, .bool true, .bool true, .int .i64 1, .bool false, .bool false, .bool true, .bool true, .bool true, .pointer none, .bool false, .bool false, .bool true, .bool true, .bool true, .bool false, .bool false, .int .i64 1, .bool true, .bool true, .bool true, .bool true, .agg (plA x), .int .i64 h, .bool d, .pointer (some ⟨bP, 1, none⟩), .int .i64 px, .pointer (some ⟨bP, 2, none⟩), .int .i64 ox, .int .i64 h, .bool d, .bool true, .bool true, .bool true, .agg (plA x), .agg (bytesV id), .bool z, .pointer (some ⟨bP, 0, none⟩), .int .i64 sx, .agg (bytesV id), .bool z, .bool true, .bool true, .bool true] (Below.refl _ _).drew ⟨fun _ _ w' _ _ hC => ?_, fun _ _ w' _ _ hC => ?_, fun _ _ w' _ _ hC => ?_, fun _ _ w' _ _ hC => ?_, fun _ _ w' _ _ hC => ?_, fun _ _ w' _ _ hC => ?_, fun _ _ w' _ _ hC => ?_, fun _ _ w' _ _ hC => ?_, fun _ _ w' _ _ hC => ?_, fun _ _ w' _ _ hC => ?_, fun _ _ w' _ _ hC => ?_, fun _ _ w' _ _ hC => ?_, fun _ _ w' _ _ hC => ?_, fun _ _ w' _ _ hC => ?_, fun _ _ w' _ _ hC => ?_, trivial⟩ ?_
            · exact .val (ex_load_pl rfl rfl (HP.out _ hC).range) hC
            · exact .call ((KG.out _).mono fun e w'' h => ⟨h.1, hC.trans (h.2.mono hC.size)⟩)
            · exact .val (ex_load_pl rfl rfl (HP.out _ hC).range) hC
            · exact .call ((KD.out _).mono fun e w'' h => ⟨h.1, hC.trans (h.2.mono hC.size)⟩)
            · exact .val (ex_load_of rfl rfl (ld_i (HPX.out ▸ (HP.out _ hC).c1))) hC
            · exact .val (ex_load_of rfl rfl (ld_i (HOX.out ▸ (HP.out _ hC).c2))) hC
            · exact .call ((KRD.out _).mono fun e w'' h => ⟨h.1, h.2 ▸ hC⟩)
            · exact .val (ex_eqb rfl rfl rfl (by simp)) hC
            · exact .val (ex_load_pl rfl rfl (HP.out _ hC).range) hC
            · exact .val (ex_load_hl rfl rfl (HI.out _ hC) hid) hC
            · exact .call ((KB.out _ (HT.out _ hC)).mono fun e w'' h => ⟨h.1, hC.trans (h.2.mono hC.size)⟩)
            · exact .val (ex_load_of rfl rfl (ld_i (HSX.out ▸ (HP.out _ hC).c0))) hC
            · exact .val (ex_load_hl rfl rfl (HI.out _ hC) hid) hC
            · exact .call ((KRB.out _).mono fun e w'' h => ⟨h.1, hC.trans (h.2.mono hC.size)⟩)
            · exact .val (ex_eqb rfl rfl rfl (by simp)) hC
            intro w5 hC
            have hB5 := hB.trans (hC.mono hB.size)
            clear hC KG KD KRD KB KRB HP HI HT
            simp only [finT, List.set_cons_zero, List.set_cons_succ, List.tail_cons, List.headD_cons]
            go_wp2_with fail
            go_ret
            exact ⟨rfl, hB5⟩
          · exact absurd HGB.out (by simp)
  · have KN := Lib.hid (new_yes x HG.out v1)
    go_wp2_with (with_reducible refine pl_load_mid rfl _ rfl bP rfl x hR1 ?_)
    refine (KN.out).mono ?_
    rintro r v2 ⟨b, rfl, -, -, hb⟩
    have hP2 := hP1.on hb (by omega)
    have hI2 := below_has hb hI1 hlt1
    replace hB := hB.trans (hb.mono hB.size)
    have hlt2 := hI2.lt
    have HP : Hid (∀ w', Below v2.heap.size v2 w' → PlAt w' bP x) := Lib.hid fun w' hb => hP2.on hb (by omega)
    have HI : Hid (∀ w', Below v2.heap.size v2 w' → w'.rangeAt (bP + 1) 0 (Lib.byteCells id)) := Lib.hid fun w' hb j u hu => by
      rw [Has.cell (below_has hb hI2 hlt2) (0 + j), ← hu, Nat.zero_add, ← Array.getElem?_toList, bytesV_list]
    have HT : Hid (∀ w', Below v2.heap.size v2 w' → Tab w') := Lib.hid fun w' hb => hT.below (hB.trans (hb.mono hB.size))
    have c0 := HSX.out ▸ hP2.c0
    have c1 := HPX.out ▸ hP2.c1
    have c2 := HOX.out ▸ hP2.c2
    clear hb hP1 hI1 hlt1 hR1 hP2 hI2 KN HG
    obtain ⟨rfl, rfl, rfl, rfl⟩ : b1 = true ∧ b2 = true ∧ b3 = true ∧ b4 = true := by
      have := HGB.out
      cases b1 <;> cases b2 <;> cases b3 <;> cases b4 <;> simp at this ⊢
    clear HGB
    go_upto_region 5 with fail
    refine wp_tab (fun _ _ w' => Below v2.heap.size v2 w') 99 98 [0, 1, 24, 26, 28, 30, 32, 33, 36, 37, 38, 40, 41, 42, 43] [.agg (plA x), .bool true, .bool true, .bool true, .bool true, .int .i64 0, .bool true, .bool true, .bool true, .bool true, .bool true, .pointer (some ⟨b, 0, none⟩), .bool true, .bool true, .bool true, .bool true, .bool true, .bool true, .bool true, undef, undef, .bool true, .bool true, .bool true, .agg (plA x), .int .i64 h, .bool d, .pointer (some ⟨bP, 1, none⟩), .int .i64 px, .pointer (some ⟨bP, 2, none⟩), .int .i64 ox, .int .i64 h, .bool d, .bool true, .bool true, .bool true, .agg (plA x), .agg (bytesV id), .bool z, .pointer (some ⟨bP, 0, none⟩), .int .i64 sx, .agg (bytesV id), .bool z, .bool true, .bool true, .bool true] (Below.refl _ _).drew ⟨fun _ _ w' _ _ hC => ?_, fun _ _ w' _ _ hC => ?_, fun _ _ w' _ _ hC => ?_, fun _ _ w' _ _ hC => ?_, fun _ _ w' _ _ hC => ?_, fun _ _ w' _ _ hC => ?_, fun _ _ w' _ _ hC => ?_, fun _ _ w' _ _ hC => ?_, fun _ _ w' _ _ hC => ?_, fun _ _ w' _ _ hC => ?_, fun _ _ w' _ _ hC => ?_, fun _ _ w' _ _ hC => ?_, fun _ _ w' _ _ hC => ?_, fun _ _ w' _ _ hC => ?_, fun _ _ w' _ _ hC => ?_, trivial⟩ ?_
    · exact .val (ex_load_pl rfl rfl (HP.out _ hC).range) hC
    · exact .call ((KG.out _).mono fun e w'' h => ⟨h.1, hC.trans (h.2.mono hC.size)⟩)
    · exact .val (ex_load_pl rfl rfl (HP.out _ hC).range) hC
    · exact .call ((KD.out _).mono fun e w'' h => ⟨h.1, hC.trans (h.2.mono hC.size)⟩)
    · exact .val (ex_load_of rfl rfl (ld_i (HPX.out ▸ (HP.out _ hC).c1))) hC
    · exact .val (ex_load_of rfl rfl (ld_i (HOX.out ▸ (HP.out _ hC).c2))) hC
    · exact .call ((KRD.out _).mono fun e w'' h => ⟨h.1, h.2 ▸ hC⟩)
    · exact .val (ex_eqb rfl rfl rfl (by simp)) hC
    · exact .val (ex_load_pl rfl rfl (HP.out _ hC).range) hC
    · exact .val (ex_load_hl rfl rfl (HI.out _ hC) hid) hC
    · exact .call ((KB.out _ (HT.out _ hC)).mono fun e w'' h => ⟨h.1, hC.trans (h.2.mono hC.size)⟩)
    · exact .val (ex_load_of rfl rfl (ld_i (HSX.out ▸ (HP.out _ hC).c0))) hC
    · exact .val (ex_load_hl rfl rfl (HI.out _ hC) hid) hC
    · exact .call ((KRB.out _).mono fun e w'' h => ⟨h.1, hC.trans (h.2.mono hC.size)⟩)
    · exact .val (ex_eqb rfl rfl rfl (by simp)) hC
    intro w5 hC
    have hB5 := hB.trans (hC.mono hB.size)
    clear hC KG KD KRD KB KRB HP HI HT
    simp only [finT, List.set_cons_zero, List.set_cons_succ, List.tail_cons, List.headD_cons]
    go_wp2_with fail
    go_ret
    exact ⟨rfl, hB5⟩
end Go.Proofs.YtomegahohiijcaaDoor.An
/-
  Two books beside one another; names cut; a law's common part.
-/
namespace Go.Proofs.YtomegahohiijcaaDoor.An
open Go.RowKit Mem Sc NN.Rg2
open Pg (Pl pbit gv Ws)
set_option maxRecDepth 100000
/-- a book stands beside what another one's call writes -/
theorem BookAt.pen {w w' : World} {b g : Nat} {v u u' : Value} {x : Pl} {bs : List Bool} {m : Nat} (h : BookAt w b v x bs m) (hs : PenStep w w' g u u') (h1 : b ≠ g) (h2 : u.ownBlock ≠ some b) (h3 : ∀ k, v.ownBlock = some k → k ≠ g ∧ u.ownBlock ≠ some k) : BookAt w' b v x bs m := by
  obtain ⟨ws, ho, hw⟩ := h.own
  refine ⟨hs.has h.cell h1 h2, ⟨ws, ?_, hw⟩, h.good, h.met, h.few⟩
  rcases ho.2 with ⟨rfl, e⟩ | ⟨k, cap, cur, rfl, hb, hg, hc, hm, hcs, ht⟩
  · exact ⟨ho.1, .inl ⟨rfl, e⟩⟩
  · have hk : k < w.heap.size := (h.ownLt (k := k) rfl).2
    obtain ⟨h4, h5⟩ := h3 k rfl
    exact ⟨ho.1, .inr ⟨k, cap, cur, rfl, hb, (hs.block k hk h4 h5).trans hg, hc, hm, hcs, ht⟩⟩
/-- two books that have nothing in common -/
structure Apt (b : Nat) (v : Value) (g : Nat) (u : Value) : Prop where
  ne : b ≠ g
  vg : v.ownBlock ≠ some g
  ub : u.ownBlock ≠ some b
  vu : ∀ k, v.ownBlock = some k → u.ownBlock ≠ some k
theorem Apt.symm {b g : Nat} {v u : Value} (h : Apt b v g u) : Apt g u b v := ⟨h.ne.symm, h.ub, h.vg, fun k hk h2 => h.vu k h2 hk⟩
/-- the second one's call -/
theorem Apt.step {w w' : World} {b g : Nat} {v u u' : Value} {x y : Pl} {bs cs : List Bool} {m n : Nat} (h : Apt b v g u) (hB : BookAt w b v x bs m) (_hG : BookAt w g u y cs n) (hs : PenStep w w' g u u') : Apt b v g u' ∧ BookAt w' b v x bs m :=
  ⟨⟨h.ne, h.vg, fun e => by
      rcases hs.lies b e with e | e
      · exact h.ub e
      · have := hB.lt; omega, fun k hk e => by
      rcases hs.lies k e with e | e
      · exact h.vu k hk e
      · have := (hB.ownLt hk).2; omega⟩,
    hB.pen hs h.ne h.ub fun k hk => ⟨fun e => h.vg (e ▸ hk), h.vu k hk⟩⟩
/-- the first k names -/
theorem names_cut {w : World} {a : Option Addr} {ls : List (List UInt8)} {n c k : Nat} (hl : n = ls.length) (hk : k ≤ n) (hc : n ≤ c) (h : NamesAt w a ls) :
    ∃ p', (∀ w' : World, (Instr.sliceAt 38 (.slice a n c) none (some (.int .i64 (k : Int))) none).run Tryd.prog w' = .ok (.slice p' k c) w') ∧ NamesAt w p' (ls.take k) := by
  refine ⟨if c = 0 then a else a.map (·.add 0), fun w' => ?_, fun h0 => ?_⟩
  · rw [run_sliceAt_slice w' 38 _ _ _ _ (by kernel_rfl), run_slice_h w' 38 a n c (by kernel_rfl) .i64 k (by omega) (by omega)]
    rw [show Tryd.prog.elem 38 = 25 by kernel_rfl]
    simp [sliced, Tryd.sizeOf25]
  · have h1 : 0 < k ∧ 0 < n := by simp at h0; omega
    obtain ⟨ab, ao, rfl, h2, hcl⟩ := h (by omega)
    refine ⟨ab, ao, by rw [if_neg (by omega)]; rfl, h2, fun j hj => ?_⟩
    have hj2 : j < ls.length := by simp at hj; omega
    rw [List.getElem_take]
    exact hcl j hj2
/-- the names from k on -/
theorem names_from {w : World} {a : Option Addr} {ls : List (List UInt8)} {n c k : Nat} (hl : n = ls.length) (hk : k ≤ n) (hc : n ≤ c) (h : NamesAt w a ls) :
    ∃ p', (∀ w' : World, (Instr.sliceAt 38 (.slice a n c) (some (.int .i64 (k : Int))) none none).run Tryd.prog w' = .ok (.slice p' (n - k) (c - k)) w') ∧ NamesAt w p' (ls.drop k) := by
  refine ⟨if c = k then a else a.map (·.add (k * 32)), fun w' => ?_, fun h0 => ?_⟩
  · rw [run_sliceAt_slice w' 38 _ _ _ _ (by kernel_rfl), run_slice_l w' 38 a n c (by kernel_rfl) .i64 k (by omega) (by omega)]
    rw [show Tryd.prog.elem 38 = 25 by kernel_rfl]
    simp [sliced, Tryd.sizeOf25]
  · have h1 : k < n := by simp at h0; omega
    obtain ⟨ab, ao, rfl, h2, hcl⟩ := h (by omega)
    refine ⟨ab, ao + k * 32, by rw [if_neg (by omega), Option.map_some, Addr.add_mid], h2, fun j hj => ?_⟩
    have hj2 : k + j < ls.length := by simp at hj; omega
    rw [List.getElem_drop]
    have := hcl (k + j) hj2
    rwa [show ao + (k + j) * 32 = ao + k * 32 + j * 32 by omega] at this
/-- names that lie below a book -/
theorem names_apart {w : World} {a : Option Addr} {ls : List (List UInt8)} {b : Nat} {v : Value} (h : NamesAt w a ls) (hB : w.heap.size ≤ b) (hv : ∀ k, v.ownBlock = some k → w.heap.size ≤ k) : 0 < ls.length → Apart b v a := fun h0 p hp => by
  obtain ⟨ab, ao, ha, hl, _⟩ := h h0
  rw [ha] at hp
  obtain rfl := Option.some.inj hp
  exact ⟨fun e => by have e' : ab = b := e; omega, fun e => by have := hv _ e; have e' : w.heap.size ≤ ab := this; omega⟩
/-- a name's box, cell by cell -/
theorem range_all {w : World} {b : Nat} {l : List UInt8} {T : TypeId} (h : Has w b (bytesV l) T) : w.rangeAt b 0 (Lib.byteCells l) := fun j u hu => by
  rw [Has.cell h (0 + j), ← hu, Nat.zero_add, ← Array.getElem?_toList, bytesV_list]
end Go.Proofs.YtomegahohiijcaaDoor.An
/-
  PledgeMeets: the walk.
-/
namespace Go.Proofs.YtomegahohiijcaaDoor.An
open Go.RowKit Mem Sc NN.Rg2
open Pg (Pl pbit gv Ws)
set_option maxRecDepth 100000
set_option maxHeartbeats 16000000 in
theorem pmeets_out (x : Pl) (h : Int) (a : Option Addr) (n c : Nat) (cut : Int) (hh : 100 < n ∨ cut < 0 ∨ (n : Int) < cut ∨ h < 0 ∨ 1099511627776 < h) (ot : List UInt8) (ho : ot.length = 32) (at_ : Int) (w : World) (hT : Tab w) :
    Calls Tryd.prog 5 #[.agg (plA x), .int .i64 h, .slice a n c, .int .i64 cut, .agg (bytesV ot), .int .i64 at_] w fun e w' => e = .returned (.bool true) ∧ Below w.heap.size w w' := by
  have KA := Lib.hid (fun w' hT => alive18 w' hT)
  have HT : Hid (∀ w', Below w.heap.size w w' → Tab w') := Lib.hid fun w' hb => hT.below hb
  have HID := Lib.hid ho
  clear hT
  obtain ⟨q1, h1⟩ : ∃ q, decide ((100 : Int) < (n : Int)) = q := ⟨_, rfl⟩
  obtain ⟨q2, h2⟩ : ∃ q, decide (cut < (0 : Int)) = q := ⟨_, rfl⟩
  obtain ⟨q3, h3⟩ : ∃ q, decide ((n : Int) < cut) = q := ⟨_, rfl⟩
  obtain ⟨q4, h4⟩ : ∃ q, decide (h < (0 : Int)) = q := ⟨_, rfl⟩
  obtain ⟨q5, h5⟩ : ∃ q, decide ((1099511627776 : Int) < h) = q := ⟨_, rfl⟩
  have HQ : Hid (q1 = true ∨ q2 = true ∨ q3 = true ∨ q4 = true ∨ q5 = true) := Lib.hid (by
    rw [← h1, ← h2, ← h3, ← h4, ← h5]
    simp only [decide_eq_true_eq]
    omega)
  clear hh
  have hidw := HID.out
  go_enter Tryd.func5, Tryd.ntmps5
  go_upto_region 1 with fail
  generalize hw0 : World.alloc _ _ = v0
  have hB : Below w.heap.size w v0 := by rw [← hw0]; exact ((Below.refl _ _).alloc (Nat.le_refl _) _).alloc (by rw [World.size_alloc]; omega) _
  have hP : PlAt v0 w.heap.size x := by rw [← hw0]; exact Has.alloc (Has.new _ _) _
  have hO : Has v0 (w.heap.size + 1) (bytesV ot) 25 := by rw [← hw0]; exact Mem.Has.new1 _ _ _
  have hlt := hO.lt
  clear hw0 hidw
  obtain ⟨bP, hbP⟩ : ∃ b, b = w.heap.size := ⟨_, rfl⟩
  rw [← hbP] at hP hO hlt ⊢
  have HBP := Lib.hid hbP
  clear hbP
  go_wp2_with fail
  refine (KA.out _ (HT.out _ hB)).mono ?_
  rintro r v1 ⟨rfl, hb⟩
  have hP1 := hP.on hb (by omega)
  have hO1 := below_has hb hO hlt
  replace hB := hB.trans (hb.mono hB.size)
  replace hlt := hO1.lt
  have hR := hP1.range
  clear hb hP hO KA
  cases q1
  · cases q2
    · cases q3
      · cases q4
        · cases q5
          · exact absurd HQ.out (by simp)
          · clear HQ
            go_wp2_with fail
            go_ret
            exact ⟨rfl, hB⟩
        · clear HQ
          go_wp2_with fail
          go_ret
          exact ⟨rfl, hB⟩
      · clear HQ
        go_wp2_with fail
        go_ret
        exact ⟨rfl, hB⟩
    · clear HQ
      go_wp2_with fail
      go_ret
      exact ⟨rfl, hB⟩
  · clear HQ
    go_wp2_with fail
    go_ret
    exact ⟨rfl, hB⟩
set_option maxHeartbeats 16000000 in
theorem pmeets_bad (x : Pl) (h : Int) (a : Option Addr) (n c : Nat) (k : Nat) (h1 : n ≤ 100) (h3 : k ≤ n) (h4 : 0 ≤ h) (h5 : h ≤ 1099511627776) (hg : x.good = false) (ot : List UInt8) (ho : ot.length = 32) (at_ : Int) (w : World) (hT : Tab w) :
    Calls Tryd.prog 5 #[.agg (plA x), .int .i64 h, .slice a n c, .int .i64 (k : Int), .agg (bytesV ot), .int .i64 at_] w fun e w' => e = .returned (.bool true) ∧ Below w.heap.size w w' := by
  have KA := Lib.hid (fun w' hT => alive18 w' hT)
  have HT : Hid (∀ w', Below w.heap.size w w' → Tab w') := Lib.hid fun w' hb => hT.below hb
  have HID := Lib.hid ho
  clear hT
  have t1 : decide ((100 : Int) < (n : Int)) = false := decide_eq_false (by omega)
  have t2 : decide ((k : Int) < (0 : Int)) = false := decide_eq_false (by omega)
  have t3 : decide (n < k) = false := decide_eq_false (by omega)
  have t4 : decide (h < (0 : Int)) = false := decide_eq_false (by omega)
  have t5 : decide ((1099511627776 : Int) < h) = false := decide_eq_false (by omega)
  have KN := Lib.hid (fun w' => new_no x hg w')
  clear hg
  have hidw := HID.out
  go_enter Tryd.func5, Tryd.ntmps5
  go_upto_region 1 with fail
  generalize hw0 : World.alloc _ _ = v0
  have hB : Below w.heap.size w v0 := by rw [← hw0]; exact ((Below.refl _ _).alloc (Nat.le_refl _) _).alloc (by rw [World.size_alloc]; omega) _
  have hP : PlAt v0 w.heap.size x := by rw [← hw0]; exact Has.alloc (Has.new _ _) _
  have hO : Has v0 (w.heap.size + 1) (bytesV ot) 25 := by rw [← hw0]; exact Mem.Has.new1 _ _ _
  have hlt := hO.lt
  clear hw0 hidw
  obtain ⟨bP, hbP⟩ : ∃ b, b = w.heap.size := ⟨_, rfl⟩
  rw [← hbP] at hP hO hlt ⊢
  have HBP := Lib.hid hbP
  clear hbP
  go_wp2_with fail
  refine (KA.out _ (HT.out _ hB)).mono ?_
  rintro r v1 ⟨rfl, hb⟩
  have hP1 := hP.on hb (by omega)
  have hO1 := below_has hb hO hlt
  replace hB := hB.trans (hb.mono hB.size)
  replace hlt := hO1.lt
  have hR := hP1.range
  clear hb hP hO KA
  go_wp2_with (with_reducible refine pl_load_mid rfl _ rfl bP rfl x hR ?_)
  refine (KN.out _).mono ?_
  rintro r v2 ⟨rfl, hb⟩
  replace hB := hB.trans (hb.mono hB.size)
  clear hb hP1 hR
  go_wp2_with fail
  go_ret
  exact ⟨rfl, hB⟩
set_option maxHeartbeats 16000000 in
theorem pmeets_main (x : Pl) (h : Int) (a : Option Addr) (ls : List (List UInt8)) (n c : Nat) (hn : n = ls.length) (hc : n ≤ c) (hf : ∀ y ∈ ls, y.length = 32) (k : Nat) (h1 : n ≤ 100) (h3 : k ≤ n) (h4 : 0 ≤ h) (h5 : h ≤ 1099511627776) (hg : x.good = true) (ot : List UInt8) (ho : ot.length = 32) (at_ : Int) (w : World) (hT : Tab w) (hA : NamesAt w a ls) :
    Calls Tryd.prog 5 #[.agg (plA x), .int .i64 h, .slice a n c, .int .i64 (k : Int), .agg (bytesV ot), .int .i64 at_] w fun e w' => e = .returned (.bool true) ∧ Below w.heap.size w w' := by
  have KA := Lib.hid (fun w' hT => alive18 w' hT)
  have HT : Hid (∀ w', Below w.heap.size w w' → Tab w') := Lib.hid fun w' hb => hT.below hb
  have HID := Lib.hid ho
  clear hT
  have t1 : decide ((100 : Int) < (n : Int)) = false := decide_eq_false (by omega)
  have t2 : decide ((k : Int) < (0 : Int)) = false := decide_eq_false (by omega)
  have t3 : decide (n < k) = false := decide_eq_false (by omega)
  have t4 : decide (h < (0 : Int)) = false := decide_eq_false (by omega)
  have t5 : decide ((1099511627776 : Int) < h) = false := decide_eq_false (by omega)
  have KN := Lib.hid (fun w' => new_yes x hg w')
  have HSP := Lib.hid (Pg.gv_span hg h h4 ls)
  have HG := Lib.hid hg
  have HN := Lib.hid hn
  have HF := Lib.hid hf
  have HA := Lib.hid hA
  have HCUT := Lib.hid (Pg.gv_cut x h ls k (by omega))
  obtain ⟨p1, hp1, hA1⟩ := names_cut hn h3 hc hA
  obtain ⟨p2, hp2, hA2⟩ := names_from hn h3 hc hA
  have HA1 := Lib.hid hA1
  have HA2 := Lib.hid hA2
  clear hg hn hf hA hA1 hA2
  have hidw := HID.out
  go_enter Tryd.func5, Tryd.ntmps5
  go_upto_region 1 with fail
  generalize hw0 : World.alloc _ _ = v0
  have hB : Below w.heap.size w v0 := by rw [← hw0]; exact ((Below.refl _ _).alloc (Nat.le_refl _) _).alloc (by rw [World.size_alloc]; omega) _
  have hP : PlAt v0 w.heap.size x := by rw [← hw0]; exact Has.alloc (Has.new _ _) _
  have hO : Has v0 (w.heap.size + 1) (bytesV ot) 25 := by rw [← hw0]; exact Mem.Has.new1 _ _ _
  have hlt := hO.lt
  clear hw0 hidw
  obtain ⟨bP, hbP⟩ : ∃ b, b = w.heap.size := ⟨_, rfl⟩
  rw [← hbP] at hP hO hlt ⊢
  have HBP := Lib.hid hbP
  clear hbP
  go_wp2_with fail
  refine (KA.out _ (HT.out _ hB)).mono ?_
  rintro r v1 ⟨rfl, hb⟩
  have hP1 := hP.on hb (by omega)
  have hO1 := below_has hb hO hlt
  replace hB := hB.trans (hb.mono hB.size)
  replace hlt := hO1.lt
  have hR := hP1.range
  clear hb hP hO KA
  go_wp2_with (with_reducible refine pl_load_mid rfl _ rfl bP rfl x hR ?_)
  refine (KN.out _).mono ?_
  rintro r v4 ⟨b, rfl, hbb, hK4, hb⟩
  replace hP1 := hP1.on hb (by omega)
  replace hO1 := below_has hb hO1 hlt
  have hbO : bP + 1 < b := Nat.lt_of_lt_of_le hlt hbb
  have hwb : w.heap.size ≤ b := Nat.le_trans hB.size hbb
  replace hB := hB.trans (hb.mono hB.size)
  clear hb hR KN hlt hbb
  obtain ⟨q1, hq1⟩ : ∃ q, (gv x h (ls.take k)).length = q := ⟨_, rfl⟩
  have KGb := give_at hK4 h p1 (ls.take k) k c (by rw [List.length_take, ← HN.out]; omega) (fun y hy => HF.out y (List.mem_of_mem_take hy)) (HA1.out.below hB) (names_apart HA1.out hwb (by simp [Value.ownBlock])) (fun w' hb => HT.out _ (hB.trans (hb.mono hwb))) (by omega) (by omega) (by omega) (by simp; omega)
  have HKGb := Lib.hid KGb
  have HB4 := Lib.hid hB
  clear KGb hB
  go_wp2_with fail
  refine (HKGb.out).mono ?_
  rintro r v5 ⟨rfl, v1', hK5, hS⟩
  have hbs := step_below hS hK4
  have hB5 := HB4.out.trans (hbs.mono hwb)
  replace hP1 := hP1.on hbs (by omega)
  replace hO1 := below_has hbs hO1 hbO
  clear HKGb hS hbs hK4
  obtain ⟨hk, hhk⟩ : ∃ hk, h + (k : Int) = hk := ⟨_, rfl⟩
  have hwr : IntKind.i64.wrap (h + (k : Int)) = hk := by rw [IntKind.wrap_i64]; omega
  have KGc := give_at hK5 hk p2 (ls.drop k) (n - k) (c - k) (by rw [List.length_drop, ← HN.out]) (fun y hy => HF.out y (List.mem_of_mem_drop hy)) (HA2.out.below hB5) (names_apart HA2.out hwb (fun j hj => by have := (hK5.ownLt hj).1; omega)) (fun w' hb => HT.out _ (hB5.trans (hb.mono hwb))) (by omega) (by omega) (by omega) (by simp [hq1]; have := Pg.gv_le x (ls.take k) h; rw [hq1, List.length_take] at this; omega)
  have HKGc := Lib.hid KGc
  have HB5 := Lib.hid hB5
  have HHK := Lib.hid hhk
  have HQ1 := Lib.hid hq1
  clear KGc hB5 hhk hq1
  go_wp2_with fail
  refine (HKGc.out).mono ?_
  rintro r v6 ⟨rfl, v, hK6, hS⟩
  have hbs := step_below hS hK5
  have hB6 := HB5.out.trans (hbs.mono hwb)
  replace hP1 := hP1.on hbs (by omega)
  replace hO1 := below_has hbs hO1 hbO
  have hbits : ([] ++ gv x h (ls.take k)) ++ gv x hk (ls.drop k) = gv x h ls := by rw [List.nil_append, ← HHK.out, ← HCUT.out]
  rw [hbits] at hK6
  clear HKGc hS hbs hK5 hbits hwr hp1 hp2
  obtain ⟨px, hpx⟩ : ∃ px, x.p = px := ⟨_, rfl⟩
  obtain ⟨ox, hox⟩ : ∃ px, x.o = px := ⟨_, rfl⟩
  obtain ⟨sx, hsx⟩ : ∃ px, x.s = px := ⟨_, rfl⟩
  have HPX := Lib.hid hpx
  have HOX := Lib.hid hox
  have HSX := Lib.hid hsx
  have HK6 := Lib.hid hK6
  have HB6 := Lib.hid hB6
  have HP6 := Lib.hid hP1
  have HO6 := Lib.hid hO1
  have HV : Hid (∀ j, v.ownBlock = some j → b + 1 ≤ j) := Lib.hid fun j hj => (hK6.ownLt hj).1
  clear hK6 hB6 hP1 hO1 hpx hox hsx
  go_wp2_with fail
  go_loopw [65] (fun i wr => ∃ j : Nat, j ≤ n ∧ i = .int .i64 (j : Int) ∧ BookAt wr b v x (gv x h ls) (gv x h (ls.take j)).length ∧ PenStep v6 wr b v v) (fun i _ => n - (intOf i).toNat)
  case atStart => exact ⟨0, Nat.zero_le _, rfl, HK6.out, PenStep.refl _ _ _⟩
  case round =>
    obtain ⟨j, hj, rfl, hK, hS⟩ := hrel
    have hbs := step_below hS HK6.out
    have hB := HB6.out.trans (hbs.mono hwb)
    have hP := HP6.out.on hbs (by omega)
    have hO := below_has hbs HO6.out hbO
    clear hbs
    by_cases hlt : j < n
    · have hjl : j < ls.length := by rw [← HN.out]; exact hlt
      obtain ⟨ab, ao, rfl, habl, hcc⟩ := HA.out.below hB (by omega)
      obtain ⟨hx32, hr⟩ := hcc j hjl
      have hlt2 := Pg.gv_len_take x h ls j hjl
      have hgat := Pg.gv_at x h ls j hjl
      generalize ls[j] = y at *
      have hsx : (Lib.byteCells y).length = 32 := by rw [Lib.byteCells_length, hx32]
      have HX := Lib.hid hsx
      have hone := bytesV_one y
      have HS32 := Lib.hid (hv_size hx32)
      have h0s : h0.size = 32 := rfl
      have H0 := Lib.hid h0s
      have HX32 := Lib.hid hx32
      obtain ⟨m, hm⟩ : ∃ m, (gv x h (ls.take j)).length = m := ⟨_, rfl⟩
      rw [hm] at hK hlt2 hgat
      obtain ⟨hj1, hhj⟩ : ∃ hj1, h + (j : Int) = hj1 := ⟨_, rfl⟩
      rw [hhj] at hlt2 hgat
      have hwr : IntKind.i64.wrap (h + (j : Int)) = hj1 := by rw [IntKind.wrap_i64]; omega
      have HBW : Hid (b < wr.heap.size ∧ ∀ i, v.ownBlock = some i → i < wr.heap.size) := Lib.hid ⟨hK.lt, fun i hi => (hK.ownLt hi).2⟩
      have HL2 := Lib.hid hlt2
      have HGA := Lib.hid hgat
      have HK := Lib.hid hK
      have HS := Lib.hid hS
      have HB := Lib.hid hB
      have HP := Lib.hid hP
      have HO := Lib.hid hO
      clear hsx hcc hx32 h0s hm hhj hlt2 hgat hK hS hB hP hO
      go_upto_region 14 with (first
        | (with_reducible refine hl_load_mid rfl _ rfl ab (ao + j * 32) rfl y hr HX.out ?_)
        | (with_reducible refine hl_store rfl _ _ rfl _ _ (bytesV y) rfl rfl rfl HS32.out hone h0 (h0_new _ _) H0.out ?_))
      generalize hw3 : World.setRow _ _ _ = w3
      have hX3 : Has w3 wr.heap.size (bytesV y) 25 := by rw [← hw3]; exact (h0_new _ _).row _
      have hB3 : Below wr.heap.size wr w3 := by rw [← hw3]; exact below_setRow ((Below.refl _ _).alloc (Nat.le_refl _) _) (Nat.le_refl _) _
      clear hw3 hr
      obtain ⟨bX, hbX⟩ : ∃ bX, bX = wr.heap.size := ⟨_, rfl⟩
      rw [← hbX] at hX3 ⊢
      have hlX := hX3.lt
      have HBX : Hid (wr.heap.size ≤ bX) := Lib.hid (by omega)
      clear hbX
      have HK3 := Lib.hid (HK.out.below hB3)
      have HS3 := Lib.hid (HS.out.trans (PenStep.below hB3 (PenStep.refl _ _ _)))
      have HB3 := Lib.hid (HB.out.trans (hB3.mono HB.out.size))
      have KP : Hid (∀ w', Below w3.heap.size w3 w' → PlAt w' bP x) := Lib.hid fun w' hb => (HP.out.on hB3 (Has.lt HP.out)).on hb (by have := Has.lt HP.out; have := hB3.size; omega)
      have KO : Hid (∀ w', Below w3.heap.size w3 w' → Has w' (bP + 1) (bytesV ot) 25) := Lib.hid fun w' hb => below_has hb (below_has hB3 HO.out HO.out.lt) (by have := HO.out.lt; have := hB3.size; omega)
      have KX : Hid (∀ w', Below w3.heap.size w3 w' → Has w' bX (bytesV y) 25) := Lib.hid fun w' hb => below_has hb hX3 hlX
      have KT : Hid (∀ w', Below w3.heap.size w3 w' → Tab w') := Lib.hid fun w' hb => HT.out _ (HB3.out.trans (hb.mono HB3.out.size))
      clear hX3 hlX hB3 HK HS HB HP HO
      obtain ⟨e1, he1⟩ : ∃ e, ((j : Int) == at_) = e := ⟨_, rfl⟩
      obtain ⟨d, hd⟩ : ∃ d, x.due hj1 = d := ⟨_, rfl⟩
      obtain ⟨zo, hzo⟩ : ∃ z, pbit x.s ot = z := ⟨_, rfl⟩
      obtain ⟨zy, hzy⟩ : ∃ z, pbit x.s y = z := ⟨_, rfl⟩
      have KD := Lib.hid (fun w' => rdue_at x px ox HPX.out HOX.out hj1 w')
      rw [hd] at KD
      have KBo := Lib.hid (fun w' => rbit_at x.s ot ho w')
      have KBy := Lib.hid (fun w' => rbit_at x.s y HX32.out w')
      rw [hzo, HSX.out] at KBo
      rw [hzy, HSX.out] at KBy
      have hmo : mt x (gv x h ls) m hj1 ot = (!d || ((gv x h ls)[m]? == some zo)) := by rw [← hd, ← hzo]; rfl
      have hmy : mt x (gv x h ls) m hj1 y = true := by
        have : mt x (gv x h ls) m hj1 y = (!d || ((gv x h ls)[m]? == some zy)) := by rw [← hd, ← hzy]; rfl
        rw [this]
        cases d with
        | false => rfl
        | true => rw [HGA.out hd, hzy]; simp
      have HGZ : Hid (d = true → (gv x h ls)[m]? = some zy) := Lib.hid fun e => by rw [HGA.out (hd.trans e), hzy]
      have HL3 : Hid ((gv x h (ls.take (j + 1))).length = m + (if d = true then 1 else 0)) := Lib.hid (by rw [HL2.out, hd])
      have HD := Lib.hid hd
      have HMO := Lib.hid hmo
      have HMY := Lib.hid hmy
      clear hd hzo hzy hmo hmy HL2 HGA
      cases e1
      · refine wp_tab (fun _ _ w' => Below w3.heap.size w3 w') 99 98 [2] [.int .i64 (j : Int), .int .i64 at_, .bool false, .bool false, undef, undef, undef, undef, undef, undef, .bool false, .bool false, undef, undef, undef, undef, undef, undef, undef, undef, undef, .bool false] (Below.refl _ _).drew ⟨fun _ _ w' _ _ hC => ?_, trivial⟩ ?_
        · exact .val (ex_eqi rfl rfl rfl he1) hC
        intro w4 hC
        simp only [finT, List.set_cons_zero, List.set_cons_succ, List.tail_cons, List.headD_cons]
        have hK4 := HK3.out.below hC
        have hS4 := HS3.out.trans (PenStep.below hC (PenStep.refl _ _ _))
        have KM := Lib.hid (meet_at hK4 hj1 y HX32.out (KT.out _ hC))
        rw [HD.out, HMY.out, Bool.and_true] at KM
        have hX4 := KX.out _ hC
        have HS4 := Lib.hid hS4
        clear hK4 hS4 hC KD KBo KBy KP KO KT HK3 HS3 HB3 KX
        go_wp2_with (with_reducible refine hl_load rfl _ rfl _ rfl _ hX4 HS32.out ?_)
        refine (KM.out).mono ?_
        rintro r w5 ⟨rfl, hK5, hS5⟩
        have hS9 := HS4.out.trans hS5
        have HK5 := Lib.hid hK5
        have HS9 := Lib.hid hS9
        clear hK5 hS5 hS9 KM hX4 HS4
        go_wp2_with fail
        go_roundw
        case rel => exact ⟨j + 1, by omega, by go_num, by rw [HL3.out]; exact HK5.out, HS9.out⟩
        case measure => simp [intOf]; omega
      · cases d
        · refine wp_tab (fun _ _ w' => Below w3.heap.size w3 w') 99 98 [2, 5, 7, 9] [.int .i64 (j : Int), .int .i64 at_, .bool true, .bool true, .pointer (some ⟨bP, 1, none⟩), .int .i64 px, .pointer (some ⟨bP, 2, none⟩), .int .i64 ox, .int .i64 hj1, .bool false, .bool false, .bool false, undef, undef, undef, undef, undef, undef, undef, undef, undef, .bool false] (Below.refl _ _).drew ⟨fun _ _ w' _ _ hC => ?_, fun _ _ w' _ _ hC => ?_, fun _ _ w' _ _ hC => ?_, fun _ _ w' _ _ hC => ?_, trivial⟩ ?_
          · exact .val (ex_eqi rfl rfl rfl he1) hC
          · exact .val (ex_load_of rfl rfl (ld_i (HPX.out ▸ (KP.out _ hC).c1))) hC
          · exact .val (ex_load_of rfl rfl (ld_i (HOX.out ▸ (KP.out _ hC).c2))) hC
          · exact .call ((KD.out _).mono fun e w'' h => ⟨h.1, h.2 ▸ hC⟩)
          intro w4 hC
          simp only [finT, List.set_cons_zero, List.set_cons_succ, List.tail_cons, List.headD_cons]
          have hK4 := HK3.out.below hC
          have hS4 := HS3.out.trans (PenStep.below hC (PenStep.refl _ _ _))
          have KM := Lib.hid (meet_at hK4 hj1 y HX32.out (KT.out _ hC))
          rw [HD.out, HMY.out, Bool.and_true] at KM
          have hX4 := KX.out _ hC
          have HS4 := Lib.hid hS4
          clear hK4 hS4 hC KD KBo KBy KP KO KT HK3 HS3 HB3 KX
          go_wp2_with (with_reducible refine hl_load rfl _ rfl _ rfl _ hX4 HS32.out ?_)
          refine (KM.out).mono ?_
          rintro r w5 ⟨rfl, hK5, hS5⟩
          have hS9 := HS4.out.trans hS5
          have HK5 := Lib.hid hK5
          have HS9 := Lib.hid hS9
          clear hK5 hS5 hS9 KM hX4 HS4
          go_wp2_with fail
          go_roundw
          case rel => exact ⟨j + 1, by omega, by go_num, by rw [HL3.out]; exact HK5.out, HS9.out⟩
          case measure => simp [intOf]; omega
        · obtain ⟨ne, hne⟩ : ∃ ne, (zo != zy) = ne := ⟨_, rfl⟩
          refine wp_tab (fun _ _ w' => Below w3.heap.size w3 w') 99 98 [2, 5, 7, 9, 13, 14, 15, 17, 18, 19, 20] [.int .i64 (j : Int), .int .i64 at_, .bool true, .bool true, .pointer (some ⟨bP, 1, none⟩), .int .i64 px, .pointer (some ⟨bP, 2, none⟩), .int .i64 ox, .int .i64 hj1, .bool true, .bool true, .bool true, .pointer (some ⟨bP, 0, none⟩), .int .i64 sx, .agg (bytesV ot), .bool zo, .pointer (some ⟨bP, 0, none⟩), .int .i64 sx, .agg (bytesV y), .bool zy, .bool ne, .bool ne] (Below.refl _ _).drew ⟨fun _ _ w' _ _ hC => ?_, fun _ _ w' _ _ hC => ?_, fun _ _ w' _ _ hC => ?_, fun _ _ w' _ _ hC => ?_, fun _ _ w' _ _ hC => ?_, fun _ _ w' _ _ hC => ?_, fun _ _ w' _ _ hC => ?_, fun _ _ w' _ _ hC => ?_, fun _ _ w' _ _ hC => ?_, fun _ _ w' _ _ hC => ?_, fun _ _ w' _ _ hC => ?_, trivial⟩ ?_
          · exact .val (ex_eqi rfl rfl rfl he1) hC
          · exact .val (ex_load_of rfl rfl (ld_i (HPX.out ▸ (KP.out _ hC).c1))) hC
          · exact .val (ex_load_of rfl rfl (ld_i (HOX.out ▸ (KP.out _ hC).c2))) hC
          · exact .call ((KD.out _).mono fun e w'' h => ⟨h.1, h.2 ▸ hC⟩)
          · exact .val (ex_load_of rfl rfl (ld_i (HSX.out ▸ (KP.out _ hC).c0))) hC
          · exact .val (ex_load_hl rfl rfl (range_all (KO.out _ hC)) ho) hC
          · exact .call ((KBo.out _).mono fun e w'' h => ⟨h.1, hC.trans (h.2.mono hC.size)⟩)
          · exact .val (ex_load_of rfl rfl (ld_i (HSX.out ▸ (KP.out _ hC).c0))) hC
          · exact .val (ex_load_hl rfl rfl (range_all (KX.out _ hC)) HX32.out) hC
          · exact .call ((KBy.out _).mono fun e w'' h => ⟨h.1, hC.trans (h.2.mono hC.size)⟩)
          · exact .val (ex_neqb rfl rfl rfl hne) hC
          intro w4 hC
          simp only [finT, List.set_cons_zero, List.set_cons_succ, List.tail_cons, List.headD_cons]
          cases ne
          · have hK4 := HK3.out.below hC
            have hS4 := HS3.out.trans (PenStep.below hC (PenStep.refl _ _ _))
            have KM := Lib.hid (meet_at hK4 hj1 y HX32.out (KT.out _ hC))
            rw [HD.out, HMY.out, Bool.and_true] at KM
            have hX4 := KX.out _ hC
            have HS4 := Lib.hid hS4
            clear hK4 hS4 hC KD KBo KBy KP KO KT HK3 HS3 HB3 KX
            go_wp2_with (with_reducible refine hl_load rfl _ rfl _ rfl _ hX4 HS32.out ?_)
            refine (KM.out).mono ?_
            rintro r w5 ⟨rfl, hK5, hS5⟩
            have hS9 := HS4.out.trans hS5
            have HK5 := Lib.hid hK5
            have HS9 := Lib.hid hS9
            clear hK5 hS5 hS9 KM hX4 HS4
            go_wp2_with fail
            go_roundw
            case rel => exact ⟨j + 1, by omega, by go_num, by rw [HL3.out]; exact HK5.out, HS9.out⟩
            case measure => simp [intOf]; omega
          · have hmof : mt x (gv x h ls) m hj1 ot = false := by
              rw [HMO.out, HGZ.out rfl]
              cases zo <;> cases zy <;> simp at hne ⊢
            have hK4 := HK3.out.below hC
            have hS4 := HS3.out.trans (PenStep.below hC (PenStep.refl _ _ _))
            have KL := Lib.hid (left_at hK4)
            obtain ⟨lf, hlf⟩ : ∃ lf, (gv x h ls).length - m = lf := ⟨_, rfl⟩
            rw [hlf] at KL
            have HK4 := Lib.hid hK4
            have HS4 := Lib.hid hS4
            have HC4 := Lib.hid hC
            clear hK4 hS4 hC hne
            go_wp2_with fail
            refine (KL.out).mono ?_
            rintro r w5 ⟨rfl, hb⟩
            have hC5 := HC4.out.trans (hb.mono HC4.out.size)
            have hK5 := HK4.out.below hb
            have KM := Lib.hid (meet_at hK5 hj1 ot ho (KT.out _ hC5))
            rw [HD.out, hmof] at KM
            have hO5 := KO.out _ hC5
            have hoz := hv_size ho
            have HS5 := Lib.hid (HS4.out.trans (PenStep.below hb (PenStep.refl _ _ _)))
            have HX5 := Lib.hid (KX.out _ hC5)
            have HC5 := Lib.hid hC5
            have HK5 := Lib.hid hK5
            clear hb hK5 KL HK4 HS4 HC4 hmof hC5
            go_wp2_with (with_reducible refine hl_load rfl _ rfl _ rfl _ hO5 hoz ?_)
            refine (KM.out).mono ?_
            rintro r w6 ⟨rfl, hK6, hS6⟩
            have hK6' : BookAt w6 b v x (gv x h ls) m := hK6
            have hbs := step_below hS6 HK5.out
            have KL := Lib.hid (left_at hK6')
            rw [hlf] at KL
            have HK6b := Lib.hid hK6'
            have HS6 := Lib.hid (HS5.out.trans hS6)
            have hT6 := HT.out _ ((HB3.out.trans (HC5.out.mono HB3.out.size)).trans (hbs.mono hwb))
            have hX6 := hS6.has HX5.out (by have := HBX.out; have := HBW.out.1; omega) (fun e => by have := HBX.out; have := HBW.out.2 _ e; omega)
            have HX6 := Lib.hid hX6
            have HT6 := Lib.hid hT6
            clear hK6 hK6' hS6 hbs hT6 hX6 KM HS5 HX5 HK5 hO5 hoz
            go_wp2_with fail
            refine (KL.out).mono ?_
            rintro r w7 ⟨rfl, hb⟩
            have hK7 := HK6b.out.below hb
            have hX7 := below_has hb HX6.out HX6.out.lt
            have KM := Lib.hid (meet_at hK7 hj1 y HX32.out (HT6.out.below hb))
            rw [HD.out, HMY.out, Bool.and_true] at KM
            have HS7 := Lib.hid (HS6.out.trans (PenStep.below hb (PenStep.refl _ _ _)))
            clear hb hK7 KL HX6 HS6 HK6b HT6 KD KBo KBy KP KO KT HK3 HS3 HB3 KX HC5
            go_wp2_with (with_reducible refine hl_load rfl _ rfl _ rfl _ hX7 HS32.out ?_)
            refine (KM.out).mono ?_
            rintro r w8 ⟨rfl, hK8, hS8⟩
            have HK8 := Lib.hid hK8
            have HS8 := Lib.hid (HS7.out.trans hS8)
            clear hK8 hS8 KM hX7 HS7
            go_wp2_with fail
            go_roundw
            case rel => exact ⟨j + 1, by omega, by go_num, by rw [HL3.out]; exact HK8.out, HS8.out⟩
            case measure => simp [intOf]; omega
    · obtain rfl : j = n := by omega
      rw [HN.out, List.take_length] at hK
      obtain ⟨q, hq⟩ : ∃ q, (gv x h ls).length = q := ⟨_, rfl⟩
      have KL : ∀ w', Below wr.heap.size wr w' → Calls Tryd.prog 17 #[.pointer (some ⟨b, 0, none⟩)] w' fun r w'' => r = .returned (.int .i64 0) ∧ Below w'.heap.size w' w'' := fun w' hb => by
        have := left_at (hK.below hb)
        rwa [Nat.sub_self] at this
      have KG : ∀ w', Below wr.heap.size wr w' → Calls Tryd.prog 16 #[.pointer (some ⟨b, 0, none⟩)] w' fun r w'' => r = .returned (.int .i64 (q : Int)) ∧ w' = w'' := fun w' hb => hq ▸ given_at (hK.below hb)
      obtain ⟨qn, on, hpq, -, hq0, hq64, -⟩ := Pg.good_nat HG.out
      obtain ⟨lo, hlo⟩ : ∃ lo : Int, ((j / qn : Nat) : Int) = lo := ⟨_, rfl⟩
      have f1 : (j : Int).tdiv px = lo := by rw [← HPX.out, hpq, ← hlo, Int.ofNat_tdiv]
      have f0 : ¬ px = 0 := by rw [← HPX.out, hpq]; omega
      have hnq : j / qn ≤ j := Nat.div_le_self _ _
      have hsp := HSP.out
      rw [hq, ← HN.out, hpq, Int.toNat_natCast] at hsp
      have hlo2 : 0 ≤ lo ∧ lo ≤ (j : Int) ∧ lo ≤ (q : Int) ∧ (q : Int) ≤ lo + 1 := by
        rw [← hlo]
        generalize j / qn = z at *
        omega
      have fw : IntKind.i64.wrap lo = lo := by rw [IntKind.wrap_i64]; omega
      obtain ⟨lo1, hlo1⟩ : ∃ lo1, lo + 1 = lo1 := ⟨_, rfl⟩
      have fw1 : IntKind.i64.wrap (lo + 1) = lo1 := by rw [IntKind.wrap_i64]; omega
      have fb : decide ((q : Int) ≤ lo1) = true := decide_eq_true (by omega)
      have KP : ∀ w', Below wr.heap.size wr w' → PlAt w' bP x := fun w' hb => hP.on hb (Has.lt hP)
      go_upto_region 21 with fail
      refine wp_tab (fun _ _ w' => Below wr.heap.size wr w') 99 98 [1, 5, 9, 10, 11, 12] [.pointer (some ⟨b, 0, none⟩), .int .i64 0, .bool true, .bool true, .pointer (some ⟨b, 0, none⟩), .int .i64 (q : Int), .slice a j c, .int .i64 (j : Int), .pointer (some ⟨bP, 1, none⟩), .int .i64 px, .int .i64 lo, .int .i64 lo1, .bool true, .bool true, .bool true] (Below.refl _ _).drew
        ⟨fun _ _ w' _ _ hC => .call ((KL _ hC).mono fun e w'' h => ⟨h.1, hC.trans (h.2.mono hC.size)⟩), fun _ _ w' _ _ hC => .call ((KG _ hC).mono fun e w'' h => ⟨h.1, h.2 ▸ hC⟩), fun _ _ w' _ _ hC => .val (ex_load_of rfl rfl (ld_i (HPX.out ▸ (KP _ hC).c1))) hC, fun _ _ w' _ _ hC => .val (ex_quoi rfl rfl rfl f0 f1 fw) hC, fun _ _ w' _ _ hC => .val (ex_addi rfl rfl rfl fw1) hC, fun _ _ w' _ _ hC => .val (ex_leqi rfl rfl rfl fb) hC, trivial⟩ ?_
      intro w5 hC
      have hB5 := hB.trans (hC.mono hB.size)
      clear hC hB KL KG KP hK hS hP hO
      simp only [finT, List.set_cons_zero, List.set_cons_succ, List.tail_cons, List.headD_cons]
      go_wp2_with fail
      go_ret
      exact ⟨rfl, hB5⟩
theorem pmeets_walk (x : Pl) (h : Int) (a : Option Addr) (ls : List (List UInt8)) (n c : Nat) (hn : n = ls.length) (hc : n ≤ c) (hf : ∀ y ∈ ls, y.length = 32) (cut : Int) (ot : List UInt8) (ho : ot.length = 32) (at_ : Int) (w : World) (hT : Tab w) (hA : NamesAt w a ls) :
    Calls Tryd.prog 5 #[.agg (plA x), .int .i64 h, .slice a n c, .int .i64 cut, .agg (bytesV ot), .int .i64 at_] w fun e w' => e = .returned (.bool true) ∧ Below w.heap.size w w' := by
  by_cases hh : 100 < n ∨ cut < 0 ∨ (n : Int) < cut ∨ h < 0 ∨ 1099511627776 < h
  · exact pmeets_out x h a n c cut hh ot ho at_ w hT
  · obtain ⟨k, rfl⟩ : ∃ k : Nat, cut = k := ⟨cut.toNat, by omega⟩
    cases hg : x.good with
    | false => exact pmeets_bad x h a n c k (by omega) (by omega) (by omega) (by omega) hg ot ho at_ w hT
    | true => exact pmeets_main x h a ls n c hn hc hf k (by omega) (by omega) (by omega) (by omega) hg ot ho at_ w hT hA
end Go.Proofs.YtomegahohiijcaaDoor.An
/-
  PledgeSpan: the walk.
-/
namespace Go.Proofs.YtomegahohiijcaaDoor.An
open Go.RowKit Mem Sc NN.Rg2
open Pg (Pl pbit gv Ws)
set_option maxRecDepth 100000
set_option maxHeartbeats 8000000 in
theorem pspan_out (x : Pl) (h : Int) (a : Option Addr) (n c : Nat) (cut : Int) (hh : 100 < n ∨ cut < 0 ∨ (n : Int) < cut ∨ h < 0 ∨ 1099511627776 < h) (w : World) (hT : Tab w) :
    Calls Tryd.prog 6 #[.agg (plA x), .int .i64 h, .slice a n c, .int .i64 cut] w fun e w' => e = .returned (.bool true) ∧ Below w.heap.size w w' := by
  have KA := Lib.hid (fun w' hT => alive18 w' hT)
  have HT : Hid (∀ w', Below w.heap.size w w' → Tab w') := Lib.hid fun w' hb => hT.below hb
  clear hT
  obtain ⟨q1, h1⟩ : ∃ q, decide ((100 : Int) < (n : Int)) = q := ⟨_, rfl⟩
  obtain ⟨q2, h2⟩ : ∃ q, decide (cut < (0 : Int)) = q := ⟨_, rfl⟩
  obtain ⟨q3, h3⟩ : ∃ q, decide ((n : Int) < cut) = q := ⟨_, rfl⟩
  obtain ⟨q4, h4⟩ : ∃ q, decide (h < (0 : Int)) = q := ⟨_, rfl⟩
  obtain ⟨q5, h5⟩ : ∃ q, decide ((1099511627776 : Int) < h) = q := ⟨_, rfl⟩
  have HQ : Hid (q1 = true ∨ q2 = true ∨ q3 = true ∨ q4 = true ∨ q5 = true) := Lib.hid (by
    rw [← h1, ← h2, ← h3, ← h4, ← h5]
    simp only [decide_eq_true_eq]
    omega)
  clear hh
  go_enter Tryd.func6, Tryd.ntmps6
  go_upto_region 1 with fail
  generalize hw0 : World.alloc _ _ = v0
  have hB : Below w.heap.size w v0 := by rw [← hw0]; exact (Below.refl _ _).alloc (Nat.le_refl _) _
  have hP : PlAt v0 w.heap.size x := by rw [← hw0]; exact Has.new _ _
  have hlt := Has.lt hP
  clear hw0
  obtain ⟨bP, hbP⟩ : ∃ b, b = w.heap.size := ⟨_, rfl⟩
  rw [← hbP] at hP hlt ⊢
  have HBP := Lib.hid hbP
  clear hbP
  go_wp2_with fail
  refine (KA.out _ (HT.out _ hB)).mono ?_
  rintro r v1 ⟨rfl, hb⟩
  have hP1 := hP.on hb hlt
  replace hB := hB.trans (hb.mono hB.size)
  replace hlt := Has.lt hP1
  have hR := hP1.range
  clear hb hP KA
  cases q1
  · cases q2
    · cases q3
      · cases q4
        · cases q5
          · exact absurd HQ.out (by simp)
          · clear HQ
            go_wp2_with fail
            go_ret
            exact ⟨rfl, hB⟩
        · clear HQ
          go_wp2_with fail
          go_ret
          exact ⟨rfl, hB⟩
      · clear HQ
        go_wp2_with fail
        go_ret
        exact ⟨rfl, hB⟩
    · clear HQ
      go_wp2_with fail
      go_ret
      exact ⟨rfl, hB⟩
  · clear HQ
    go_wp2_with fail
    go_ret
    exact ⟨rfl, hB⟩
set_option maxHeartbeats 8000000 in
theorem pspan_bad (x : Pl) (h : Int) (a : Option Addr) (n c : Nat) (k : Nat) (h1 : n ≤ 100) (h3 : k ≤ n) (h4 : 0 ≤ h) (h5 : h ≤ 1099511627776) (hg : x.good = false) (w : World) (hT : Tab w) :
    Calls Tryd.prog 6 #[.agg (plA x), .int .i64 h, .slice a n c, .int .i64 (k : Int)] w fun e w' => e = .returned (.bool true) ∧ Below w.heap.size w w' := by
  have KA := Lib.hid (fun w' hT => alive18 w' hT)
  have HT : Hid (∀ w', Below w.heap.size w w' → Tab w') := Lib.hid fun w' hb => hT.below hb
  clear hT
  have t1 : decide ((100 : Int) < (n : Int)) = false := decide_eq_false (by omega)
  have t2 : decide ((k : Int) < (0 : Int)) = false := decide_eq_false (by omega)
  have t3 : decide (n < k) = false := decide_eq_false (by omega)
  have t4 : decide (h < (0 : Int)) = false := decide_eq_false (by omega)
  have t5 : decide ((1099511627776 : Int) < h) = false := decide_eq_false (by omega)
  have KG := Lib.hid (fun w' => good_at x w')
  rw [hg] at KG
  clear hg
  go_enter Tryd.func6, Tryd.ntmps6
  go_upto_region 1 with fail
  generalize hw0 : World.alloc _ _ = v0
  have hB : Below w.heap.size w v0 := by rw [← hw0]; exact (Below.refl _ _).alloc (Nat.le_refl _) _
  have hP : PlAt v0 w.heap.size x := by rw [← hw0]; exact Has.new _ _
  have hlt := Has.lt hP
  clear hw0
  obtain ⟨bP, hbP⟩ : ∃ b, b = w.heap.size := ⟨_, rfl⟩
  rw [← hbP] at hP hlt ⊢
  have HBP := Lib.hid hbP
  clear hbP
  go_wp2_with fail
  refine (KA.out _ (HT.out _ hB)).mono ?_
  rintro r v1 ⟨rfl, hb⟩
  have hP1 := hP.on hb hlt
  replace hB := hB.trans (hb.mono hB.size)
  replace hlt := Has.lt hP1
  have hR := hP1.range
  clear hb hP KA
  go_wp2_with (first | (with_reducible refine pl_load_mid rfl _ rfl bP rfl x hR ?_) | (with_reducible refine pl_load_g (by with_unfolding_all rfl) _ rfl bP rfl x hP1 ?_))
  refine (KG.out _).mono ?_
  rintro r v2 ⟨rfl, hb⟩
  replace hB := hB.trans (hb.mono hB.size)
  clear hb hP1 hR
  go_wp2_with fail
  go_ret
  exact ⟨rfl, hB⟩
set_option maxHeartbeats 8000000 in
theorem pspan_main (x : Pl) (h : Int) (a : Option Addr) (ls : List (List UInt8)) (n c : Nat) (hn : n = ls.length) (hc : n ≤ c) (hf : ∀ y ∈ ls, y.length = 32) (k : Nat) (h1 : n ≤ 100) (h3 : k ≤ n) (h4 : 0 ≤ h) (h5 : h ≤ 1099511627776) (hg : x.good = true) (w : World) (hT : Tab w) (hA : NamesAt w a ls) :
    Calls Tryd.prog 6 #[.agg (plA x), .int .i64 h, .slice a n c, .int .i64 (k : Int)] w fun e w' => e = .returned (.bool true) ∧ Below w.heap.size w w' := by
  have KA := Lib.hid (fun w' hT => alive18 w' hT)
  have HT : Hid (∀ w', Below w.heap.size w w' → Tab w') := Lib.hid fun w' hb => hT.below hb
  clear hT
  have t1 : decide ((100 : Int) < (n : Int)) = false := decide_eq_false (by omega)
  have t2 : decide ((k : Int) < (0 : Int)) = false := decide_eq_false (by omega)
  have t3 : decide (n < k) = false := decide_eq_false (by omega)
  have t4 : decide (h < (0 : Int)) = false := decide_eq_false (by omega)
  have t5 : decide ((1099511627776 : Int) < h) = false := decide_eq_false (by omega)
  have KG := Lib.hid (fun w' => good_at x w')
  rw [hg] at KG
  have KN := Lib.hid (fun w' => new_yes x hg w')
  have HSP := Lib.hid (Pg.gv_span hg h h4 ls)
  have HG := Lib.hid hg
  have HN := Lib.hid hn
  have HF := Lib.hid hf
  have HA := Lib.hid hA
  have HCUT := Lib.hid (Pg.gv_cut x h ls k (by omega))
  obtain ⟨p1, hp1, hA1⟩ := names_cut hn h3 hc hA
  obtain ⟨p2, hp2, hA2⟩ := names_from hn h3 hc hA
  have HA1 := Lib.hid hA1
  have HA2 := Lib.hid hA2
  clear hg hn hf hA hA1 hA2
  go_enter Tryd.func6, Tryd.ntmps6
  go_upto_region 1 with fail
  generalize hw0 : World.alloc _ _ = v0
  have hB : Below w.heap.size w v0 := by rw [← hw0]; exact (Below.refl _ _).alloc (Nat.le_refl _) _
  have hP : PlAt v0 w.heap.size x := by rw [← hw0]; exact Has.new _ _
  have hlt := Has.lt hP
  clear hw0
  obtain ⟨bP, hbP⟩ : ∃ b, b = w.heap.size := ⟨_, rfl⟩
  rw [← hbP] at hP hlt ⊢
  have HBP := Lib.hid hbP
  clear hbP
  go_wp2_with fail
  refine (KA.out _ (HT.out _ hB)).mono ?_
  rintro r v1 ⟨rfl, hb⟩
  have hP1 := hP.on hb hlt
  replace hB := hB.trans (hb.mono hB.size)
  replace hlt := Has.lt hP1
  have hR := hP1.range
  clear hb hP KA
  go_wp2_with (first | (with_reducible refine pl_load_mid rfl _ rfl bP rfl x hR ?_) | (with_reducible refine pl_load_g (by with_unfolding_all rfl) _ rfl bP rfl x hP1 ?_))
  refine (KG.out _).mono ?_
  rintro r v2 ⟨rfl, hb⟩
  replace hP1 := hP1.on hb hlt
  replace hB := hB.trans (hb.mono hB.size)
  replace hlt := Has.lt hP1
  have hR2 := hP1.range
  clear hb hR KG
  go_wp2_with (with_reducible refine pl_load_mid rfl _ rfl bP rfl x hR2 ?_)
  refine (KN.out _).mono ?_
  rintro r v3 ⟨ba, rfl, hba, hKa, hb⟩
  replace hP1 := hP1.on hb hlt
  have hbP : bP < ba := Nat.lt_of_lt_of_le hlt hba
  have hwa : w.heap.size ≤ ba := Nat.le_trans hB.size hba
  replace hB := hB.trans (hb.mono hB.size)
  replace hlt := Has.lt hP1
  have hR3 := hP1.range
  clear hb hR2
  go_wp2_with (with_reducible refine pl_load_mid rfl _ rfl bP rfl x hR3 ?_)
  refine (KN.out _).mono ?_
  rintro r v4 ⟨bb, rfl, hbb, hKb, hb⟩
  replace hP1 := hP1.on hb hlt
  have hab : ba < bb := by have := hKa.lt; omega
  have hKa4 := hKa.below hb
  have hapt : Apt ba (.slice none 0 0) bb (.slice none 0 0) := ⟨by have := hKa.lt; omega, by simp [Value.ownBlock], by simp [Value.ownBlock], by simp [Value.ownBlock]⟩
  replace hB := hB.trans (hb.mono hB.size)
  clear hb hR3 KN hlt hKa
  have hwb : w.heap.size ≤ bb := by omega
  clear hba hbb
  obtain ⟨q, hq⟩ : ∃ q, (gv x h ls).length = q := ⟨_, rfl⟩
  have KGa := give_at hKa4 h a ls n c HN.out HF.out (HA.out.below hB) (names_apart HA.out hwa (by simp [Value.ownBlock])) (fun w' hb => HT.out _ (hB.trans (hb.mono hwa))) (by omega) (by omega) (by omega) (by simp; omega)
  rw [hq] at KGa
  have HKGa := Lib.hid KGa
  have HB4 := Lib.hid hB
  clear KGa hB
  go_wp2_with fail
  refine (HKGa.out).mono ?_
  rintro r v5 ⟨rfl, va, hKa5, hS⟩
  have hbs := step_below hS hKa4
  have hB5 := HB4.out.trans (hbs.mono hwa)
  replace hP1 := hP1.on hbs hbP
  obtain ⟨hapt5, hKb5⟩ := hapt.symm.step hKb hKa4 hS
  clear HKGa hS hbs hapt hKb hKa4
  obtain ⟨q1, hq1⟩ : ∃ q, (gv x h (ls.take k)).length = q := ⟨_, rfl⟩
  have KGb := give_at hKb5 h p1 (ls.take k) k c (by rw [List.length_take, ← HN.out]; omega) (fun y hy => HF.out y (List.mem_of_mem_take hy)) (HA1.out.below hB5) (names_apart HA1.out hwb (by simp [Value.ownBlock])) (fun w' hb => HT.out _ (hB5.trans (hb.mono hwb))) (by omega) (by omega) (by omega) (by simp; omega)
  rw [hq1] at KGb
  have HKGb := Lib.hid KGb
  have HB5 := Lib.hid hB5
  clear KGb hB5
  go_wp2_with fail
  refine (HKGb.out).mono ?_
  rintro r v6 ⟨rfl, vb, hKb6, hS⟩
  have hbs := step_below hS hKb5
  have hB6 := HB5.out.trans (hbs.mono hwb)
  replace hP1 := hP1.on hbs (by omega)
  obtain ⟨hapt6, hKa6⟩ := hapt5.symm.step hKa5 hKb5 hS
  clear HKGb hS hbs hapt5 hKb5 hKa5
  obtain ⟨q2, hq2⟩ : ∃ q, (gv x (h + (k : Int)) (ls.drop k)).length = q := ⟨_, rfl⟩
  obtain ⟨hk, hhk⟩ : ∃ hk, h + (k : Int) = hk := ⟨_, rfl⟩
  have hwr : IntKind.i64.wrap (h + (k : Int)) = hk := by rw [IntKind.wrap_i64]; omega
  have hqs : q1 + q2 = q := by rw [← hq, HCUT.out, List.length_append, hq1, hq2]
  have hql : q ≤ n := by rw [← hq, HN.out]; exact Pg.gv_le x ls h
  have hws : IntKind.i64.wrap ((q1 : Int) + (q2 : Int)) = (q : Int) := by rw [IntKind.wrap_i64]; omega
  have KGc := give_at hKb6 hk p2 (ls.drop k) (n - k) (c - k) (by rw [List.length_drop, ← HN.out]) (fun y hy => HF.out y (List.mem_of_mem_drop hy)) (HA2.out.below hB6) (names_apart HA2.out hwb (fun j hj => by have := (hKb6.ownLt hj).1; omega)) (fun w' hb => HT.out _ (hB6.trans (hb.mono hwb))) (by omega) (by omega) (by omega) (by simp [hq1]; omega)
  rw [hhk] at hq2
  rw [hq2] at KGc
  have HKGc := Lib.hid KGc
  have HB6 := Lib.hid hB6
  have HQ2 := Lib.hid hq2
  have HQ1 := Lib.hid hq1
  have HQ := Lib.hid hq
  have HHK := Lib.hid hhk
  have HQS := Lib.hid hqs
  clear KGc hB6 hq hq1 hq2 hhk hqs
  go_wp2_with fail
  refine (HKGc.out).mono ?_
  rintro r v7 ⟨rfl, vb2, hKb7, hS⟩
  have hbs := step_below hS hKb6
  have hB7 := HB6.out.trans (hbs.mono hwb)
  replace hP1 := hP1.on hbs (by omega)
  obtain ⟨hapt7, hKa7⟩ := hapt6.step hKa6 hKb6 hS
  clear HKGc hS hbs hapt6 hKb6 hKa6
  have HKa7 := Lib.hid hKa7
  have HKb7 := Lib.hid hKb7
  have HB7 := Lib.hid hB7
  have HP7 := Lib.hid hP1
  obtain ⟨px, hpx⟩ : ∃ px, x.p = px := ⟨_, rfl⟩
  have c1 := hpx ▸ hP1.c1
  obtain ⟨qn, on, hpq, -, hq0, hq64, -⟩ := Pg.good_nat HG.out
  obtain ⟨lo, hlo⟩ : ∃ lo : Int, ((n / qn : Nat) : Int) = lo := ⟨_, rfl⟩
  have f1 : (n : Int).tdiv px = lo := by rw [← hpx, hpq, ← hlo, Int.ofNat_tdiv]
  have f0 : ¬ px = 0 := by rw [← hpx, hpq]; omega
  have hnq : n / qn ≤ n := Nat.div_le_self _ _
  have hsp := HSP.out
  rw [HQ.out, ← HN.out, hpq, Int.toNat_natCast] at hsp
  have hlo2 : 0 ≤ lo ∧ lo ≤ (n : Int) ∧ lo ≤ (q : Int) ∧ (q : Int) ≤ lo + 1 := by
    rw [← hlo]
    generalize n / qn = z at *
    omega
  have fw : IntKind.i64.wrap lo = lo := by rw [IntKind.wrap_i64]; omega
  obtain ⟨lo1, hlo1⟩ : ∃ lo1, lo + 1 = lo1 := ⟨_, rfl⟩
  have fw1 : IntKind.i64.wrap (lo + 1) = lo1 := by rw [IntKind.wrap_i64]; omega
  have fa : decide ((q : Int) < lo) = false := decide_eq_false (by omega)
  have fb : decide (lo1 < (q : Int)) = false := decide_eq_false (by omega)
  have hbitsA : ([] ++ gv x h ls) = gv x h ls := rfl
  have hbitsB : ([] ++ gv x h (ls.take k)) ++ gv x hk (ls.drop k) = gv x h ls := by rw [List.nil_append, ← HHK.out, ← HCUT.out]
  have KBa := bits_at hKa7
  rw [hbitsA, HQ.out] at KBa
  have HKBa := Lib.hid KBa
  clear hpx hpq hlo hlo1 hlo2 hnq hsp hq0 hq64 hP1 hKa7 hKb7 KBa hbitsA
  go_wp2_with fail
  refine (HKBa.out).mono ?_
  rintro r v8 ⟨g1, rfl, hg1, hgs1, hb8⟩
  have KBb := bits_at (HKb7.out.below hb8)
  rw [hbitsB, HQ.out] at KBb
  have HKBb := Lib.hid KBb
  have hB8 := HB7.out.trans (hb8.mono HB7.out.size)
  clear hb8 KBb hbitsB HKBa c1
  go_wp2_with fail
  refine (HKBb.out).mono ?_
  rintro r v9 ⟨g2, rfl, hg2, hgs2, hb9⟩
  have hg1' := below_has hb9 hg1 hg1.lt
  have hB9 := hB8.trans (hb9.mono hB8.size)
  obtain ⟨cs, hcs⟩ : ∃ cs, cs = ((gv x h ls).map Value.bool).toArray := ⟨_, rfl⟩
  rw [← hcs] at hg1' hg2
  have HCS := Lib.hid hcs
  have HG1 := Lib.hid hg1'
  have HG2 := Lib.hid hg2
  have HB9 := Lib.hid hB9
  clear hb9 HKBb hg1 hg1' hg2 hcs hgs1 hgs2 hB8 hB9
  go_wp2_with fail
  go_loopw [114] (fun i wr => ∃ j : Nat, j ≤ q ∧ i = .int .i64 (j : Int) ∧ Below v9.heap.size v9 wr) (fun i _ => q - (intOf i).toNat)
  case atStart => exact ⟨0, Nat.zero_le _, rfl, Below.refl _ _⟩
  case round =>
    obtain ⟨j, hj, rfl, hB⟩ := hrel
    by_cases hlt : j < q
    · have hjl : j < (gv x h ls).length := by rw [HQ.out]; exact hlt
      obtain ⟨y, hy⟩ : ∃ y, (gv x h ls)[j] = y := ⟨_, rfl⟩
      have hcy : cs[j]? = some (.bool y) := by rw [HCS.out, ← hy]; simp [hjl]
      have K1 : ∀ w', Below wr.heap.size wr w' → w'.cell? ⟨g1, j, none⟩ = some (.bool y) := fun w' hb => (below_has (hB.trans (hb.mono hB.size)) HG1.out HG1.out.lt).cell j |>.trans hcy
      have K2 : ∀ w', Below wr.heap.size wr w' → w'.cell? ⟨g2, j, none⟩ = some (.bool y) := fun w' hb => (below_has (hB.trans (hb.mono hB.size)) HG2.out HG2.out.lt).cell j |>.trans hcy
      have HK1 := Lib.hid K1
      have HK2 := Lib.hid K2
      clear K1 K2 hcy hy hjl
      go_upto_region 17 with fail
      refine wp_tab (fun _ _ w' => Below wr.heap.size wr w') 99 98 [2, 3, 6, 7, 8] [.slice (some ⟨g1, 0, none⟩) q q, .int .i64 (j : Int), .pointer (some ⟨g1, j, none⟩), .bool y, .slice (some ⟨g2, 0, none⟩) q q, .int .i64 (j : Int), .pointer (some ⟨g2, j, none⟩), .bool y, .bool false] (Below.refl _ _).drew
        ⟨fun _ _ w' _ _ hC => .val (ex_idx rfl rfl rfl (idx_bools _ _ _ _ _ hlt)) hC, fun _ _ w' _ _ hC => .val (ex_load_of rfl rfl (ld_b (HK1.out _ hC))) hC, fun _ _ w' _ _ hC => .val (ex_idx rfl rfl rfl (idx_bools _ _ _ _ _ hlt)) hC, fun _ _ w' _ _ hC => .val (ex_load_of rfl rfl (ld_b (HK2.out _ hC))) hC, fun _ _ w' _ _ hC => .val (ex_neqb rfl rfl rfl (by cases y <;> rfl)) hC, trivial⟩ ?_
      intro w5 hC
      have hB5 := hB.trans (hC.mono hB.size)
      clear hC hB HK1 HK2
      simp only [finT, List.set_cons_zero, List.set_cons_succ, List.tail_cons, List.headD_cons]
      go_wp2_with fail
      go_roundw
      case rel => exact ⟨j + 1, by omega, by go_num, hB5⟩
      case measure => simp [intOf]; omega
    · obtain rfl : j = q := by omega
      go_wp2_with fail
      go_ret
      exact ⟨rfl, HB9.out.trans (hB.mono HB9.out.size)⟩
theorem pspan_walk (x : Pl) (h : Int) (a : Option Addr) (ls : List (List UInt8)) (n c : Nat) (hn : n = ls.length) (hc : n ≤ c) (hf : ∀ y ∈ ls, y.length = 32) (cut : Int) (w : World) (hT : Tab w) (hA : NamesAt w a ls) :
    Calls Tryd.prog 6 #[.agg (plA x), .int .i64 h, .slice a n c, .int .i64 cut] w fun e w' => e = .returned (.bool true) ∧ Below w.heap.size w w' := by
  by_cases hh : 100 < n ∨ cut < 0 ∨ (n : Int) < cut ∨ h < 0 ∨ 1099511627776 < h
  · exact pspan_out x h a n c cut hh w hT
  · obtain ⟨k, rfl⟩ : ∃ k : Nat, cut = k := ⟨cut.toNat, by omega⟩
    cases hg : x.good with
    | false => exact pspan_bad x h a n c k (by omega) (by omega) (by omega) (by omega) hg w hT
    | true => exact pspan_main x h a ls n c hn hc hf k (by omega) (by omega) (by omega) (by omega) hg w hT hA
end Go.Proofs.YtomegahohiijcaaDoor.An
