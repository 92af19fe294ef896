import Derived.Test.YthcebnfdapcllaaGreatDoorRBunQ44
import Derived.Test.YthcebnfdapcllaaGreatDoorRPgBit
namespace Go.Proofs.YthcebnfdapcllaaGreatDoor.An
open Go.RowKit Mem Sc NN.Rg2
open Pg (Pl pbit gv Ws)
set_option maxRecDepth 100000
section
variable {w : World} {ops : Array Oper} {rest : List Oper} {o : Oper} {a : Act} {Q : Exit → Act → World → Prop}
theorem pl_load_mid (hgd : o.guard = none) (x : Operand) (ho : o.op = .load 35 x) (g : Nat) (hx : a.eval x = .pointer (some ⟨g, 0, none⟩)) (y : Pl) (hg : w.rangeAt g 0 (plA y).toList)
    (h : wpList Tryz.prog ops Q rest (a.put o.dst (.agg (plA y))) w) : wpList Tryz.prog ops Q (o :: rest) a w :=
  wpList_load_mid hgd 35 x ho g 0 hx (plA y).toList _ hg Tryz.underlying35 rfl plinfo h
end
def WrS (w3 w : World) (b : Nat) (v : Value) (x : Pl) (bs : List Bool) (m : Nat) (y : Bool) (b1 : Bool) (w' : World) : Prop := (b1 = false → Below w3.heap.size w3 w') ∧ (b1 = true → ∃ v', BookAt w' b v' x (bs ++ [y]) m ∧ PenStep w w' b v v')
theorem step_below {w w' : World} {b : Nat} {v v' : Value} {x : Pl} {bs : List Bool} {m : Nat} (h : PenStep w w' b v v') (hb : BookAt w b v x bs m) : Below b w w' :=
  ⟨h.os, h.tape, h.output, h.size, fun k hk => h.block k (by have := hb.lt; omega) (by omega) (fun e => by have := (hb.ownLt e).1; omega)⟩
set_option maxHeartbeats 4000000 in
theorem give_at {w : World} {b : Nat} {v : Value} {x : Pl} {bs : List Bool} {m : Nat} (h : BookAt w b v x bs m) (hh : Int) (a : Option Addr) (ls : List (List UInt8)) (n c : Nat) (hn : n = ls.length) (h32 : ∀ y ∈ ls, y.length = 32) (hA : NamesAt w a ls) (hap : 0 < ls.length → Apart b v a) (hT : ∀ w', Below b w w' → Tab w')
    (h1 : -2199023255552 ≤ hh) (h2 : hh ≤ 2199023255552) (h3 : n ≤ 1048576) (h4 : bs.length + n ≤ 1099511627776) :
    Calls Tryz.prog 55 #[.pointer (some ⟨b, 0, none⟩), .int .i64 hh, .slice a n c] w fun r w' => r = .returned (.int .i64 ((gv x hh ls).length : Int)) ∧ ∃ v', BookAt w' b v' x (bs ++ gv x hh ls) m ∧ PenStep w w' b v v' := by
  have HN := Lib.hid hn
  have HA := Lib.hid hA
  have HP := Lib.hid hap
  have H32 := Lib.hid h32
  have HT := Lib.hid hT
  have H := Lib.hid h
  have c4 := h.c4
  obtain ⟨n0, hn0⟩ : ∃ n0, bs.length = n0 := ⟨_, rfl⟩
  rw [hn0] at c4 h4
  have HN0 := Lib.hid hn0
  obtain ⟨q, hq⟩ : ∃ q, (gv x hh ls).length = q := ⟨_, rfl⟩
  rw [hq]
  have hql : q ≤ n := by rw [← hq, hn]; exact Pg.gv_le x ls hh
  have HQ := Lib.hid hq
  clear hn hA hap h32 hT hn0 hq
  go_enter Tryz.func55, Tryz.ntmps55
  go_wp2_with fail
  clear c4
  go_loopw [18] (fun i wr => ∃ (k : Nat) (v1 : Value), k ≤ n ∧ i = .int .i64 (k : Int) ∧ BookAt wr b v1 x (bs ++ gv x hh (ls.take k)) m ∧ PenStep w wr b v v1) (fun i _ => n - (intOf i).toNat)
  case atStart => exact ⟨0, v, Nat.zero_le _, rfl, by simpa [gv] using h, PenStep.refl _ _ _⟩
  case round =>
    clear h
    obtain ⟨k, v1, hk, rfl, hB, hS⟩ := hrel
    by_cases hlt : k < n
    · have hkl : k < ls.length := by rw [← HN.out]; exact hlt
      obtain ⟨ab, ao, rfl, habl, hc⟩ := HA.out (by omega)
      obtain ⟨hab, hav⟩ := HP.out (by omega) _ rfl
      obtain ⟨hx32, hcx⟩ := hc k hkl
      have hr : wr.rangeAt ab (ao + k * 32) (Lib.byteCells ls[k]) := fun j u hu => (hS.cell (a := ⟨ab, ao + k * 32 + j, none⟩) habl hab hav).trans (hcx j u hu)
      have hnx := Pg.gv_take x hh ls k hkl
      have hle : (bs ++ gv x hh (ls.take k)).length ≤ n0 + k := by
        have := Pg.gv_le x (ls.take k) hh
        rw [List.length_take, Nat.min_eq_left (by omega)] at this
        rw [List.length_append, HN0.out]; omega
      generalize ls[k] = y at *
      obtain ⟨bs1, hbs1⟩ : ∃ bs1, bs1 = bs ++ gv x hh (ls.take k) := ⟨_, rfl⟩
      rw [← hbs1] at hB hle
      obtain ⟨hk1, hhk⟩ : ∃ hk1, hh + (k : Int) = hk1 := ⟨_, rfl⟩
      have hwr : IntKind.i64.wrap (hh + (k : Int)) = hk1 := by rw [IntKind.wrap_i64]; omega
      rw [hhk] at hnx
      obtain ⟨d, hd⟩ : ∃ d, x.due hk1 = d := ⟨_, rfl⟩
      rw [hd] at hnx
      have KD := Lib.hid (fun w' => due_at x hk1 w')
      rw [hd] at KD
      have HNX : Hid (bs ++ gv x hh (ls.take (k + 1)) = bs1 ++ (if d = true then [pbit x.s y] else [])) := Lib.hid (by rw [hnx, ← List.append_assoc, hbs1])
      have hsx : (Lib.byteCells y).length = 32 := by rw [Lib.byteCells_length, hx32]
      have HX := Lib.hid hsx
      have hone := bytesV_one y
      have HS32 := Lib.hid (hv_size hx32)
      have h0s : h0.size = 32 := rfl
      have H0 := Lib.hid h0s
      have HX32 := Lib.hid hx32
      have HS := Lib.hid hS
      have hSB := step_below hS H.out
      have HB := Lib.hid hB
      clear hsx hc hcx hnx hbs1 hhk h0s hx32 hd hS hB
      go_upto_region 7 with (first
        | (with_reducible refine hl_load_mid rfl _ rfl ab (ao + k * 32) rfl y hr HX.out ?_)
        | (with_reducible refine hl_store rfl _ _ rfl _ _ (bytesV y) rfl rfl rfl HS32.out hone h0 (h0_new _ _) H0.out ?_))
      generalize hw3 : World.setRow _ _ _ = w3
      have hX3 : Has w3 wr.heap.size (bytesV y) 28 := by rw [← hw3]; exact (h0_new _ _).row _
      have hB3 : Below wr.heap.size wr w3 := by rw [← hw3]; exact below_setRow ((Below.refl _ _).alloc (Nat.le_refl _) _) (Nat.le_refl _) _
      clear hw3
      obtain ⟨bX, hbX⟩ : ∃ bX, bX = wr.heap.size := ⟨_, rfl⟩
      rw [← hbX] at hX3 ⊢
      have hlX := hX3.lt
      clear hbX
      have hP3 := (HB.out.below hB3).plan
      go_wp2_with (with_reducible refine pl_load_mid rfl _ rfl b rfl x hP3 ?_)
      refine (KD.out _).mono ?_
      rintro r w4 ⟨rfl, hb4⟩
      replace hX3 := below_has hb4 hX3 hlX
      replace hB3 := hB3.trans (hb4.mono hB3.size)
      have HX4 := Lib.hid hX3
      have hlX4 := hX3.lt
      have HB4 := Lib.hid (HB.out.below hB3)
      have HSW4 := Lib.hid (HS.out.trans (PenStep.below hB3 (PenStep.refl _ _ _)))
      clear KD hb4 hP3 hlX hX3
      cases d
      · have HNX2 : Hid (bs ++ gv x hh (ls.take (k + 1)) = bs1) := Lib.hid (by rw [HNX.out]; simp)
        go_wp2_with fail
        go_roundw
        case rel => exact ⟨k + 1, v1, by omega, by go_num, by rw [HNX2.out]; exact HB4.out, HSW4.out⟩
        case measure => simp [intOf]; omega
      · have HNX2 : Hid (bs ++ gv x hh (ls.take (k + 1)) = bs1 ++ [pbit x.s y]) := Lib.hid (by rw [HNX.out]; simp)
        have KB : ∀ w', Below w4.heap.size w4 w' → Calls Tryz.prog 72 #[.agg (plA x), .agg (bytesV y)] w' fun r w'' => r = .returned (.bool (pbit x.s y)) ∧ Below w'.heap.size w' w'' := fun w' hb => bit_at x y HX32.out w' (HT.out _ (hSB.trans ((hB3.trans (hb.mono hB3.size)).mono (Nat.le_of_lt HB.out.lt))))
        generalize pbit x.s y = z at *
        have KW : ∀ w', Below w4.heap.size w4 w' → Calls Tryz.prog 71 #[.pointer (some ⟨b, 0, none⟩), .bool z] w' fun r w'' => r = .returned (.tuple #[]) ∧ ∃ v', BookAt w'' b v' x (bs1 ++ [z]) m ∧ PenStep w w'' b v v' := fun w' hb => (book_write (HB4.out.below hb) (by omega) z).mono fun r w'' ⟨h1, v', h2, h3⟩ => ⟨h1, v', h2, HSW4.out.trans (PenStep.below hb h3)⟩
        have KI : ∀ w', Below w4.heap.size w4 w' → w'.rangeAt bX 0 (Lib.byteCells y) := fun w' hb j u hu => by
          rw [Has.cell (below_has hb HX4.out hlX4) (0 + j), ← hu, Nat.zero_add, ← Array.getElem?_toList, bytesV_list]
        have KP : ∀ w', Below w4.heap.size w4 w' → w'.rangeAt b 0 (plA x).toList := fun w' hb => (HB4.out.below hb).plan
        have HKB := Lib.hid KB
        have HKW := Lib.hid KW
        have HKI := Lib.hid KI
        have HKP := Lib.hid KP
        clear KB KW KI KP
        go_upto_region 8 with fail
        refine wp_tab (fun b1 _ w' => WrS w4 w b v x bs1 m z b1 w') 7 99 [4, 5, 6, 7] [.pointer (some ⟨b, 0, none⟩), .pointer (some ⟨b, 0, none⟩), .pointer (some ⟨b, 0, none⟩), .pointer (some ⟨b, 0, none⟩), .agg (plA x), .agg (bytesV y), .bool z, .tuple #[]] ⟨fun _ => (Below.refl _ _).drew, fun h => by cases h⟩
          ⟨fun b1 b2 w' f1 _ hC => ?_, fun b1 b2 w' f1 _ hC => ?_, fun b1 b2 w' f1 _ hC => ?_, fun b1 b2 w' f1 _ hC => ?_, trivial⟩ ?_
        · obtain rfl := f1.no (by kernel_rfl)
          exact .val (ex_load_pl rfl rfl (HKP.out _ (hC.1 rfl))) hC
        · obtain rfl := f1.no (by kernel_rfl)
          exact .val (pex_load_hl rfl rfl (HKI.out _ (hC.1 rfl)) HX32.out) hC
        · obtain rfl := f1.no (by kernel_rfl)
          exact .call ((HKB.out _ (hC.1 rfl)).mono fun e w'' h => ⟨h.1, fun _ => (hC.1 rfl).trans (h.2.mono (hC.1 rfl).size), fun h => by cases h⟩)
        · obtain rfl := f1.no (by kernel_rfl)
          exact .call ((HKW.out _ (hC.1 rfl)).mono fun e w'' h => ⟨h.1, (fun h => by cases h), fun _ => h.2⟩)
        intro w5 hC
        obtain ⟨v2, hB5, hS5⟩ := hC.2 rfl
        have HB5 := Lib.hid hB5
        have HS5 := Lib.hid hS5
        clear hC hB5 hS5 HKB HKW HKI HKP
        simp only [finT, List.set_cons_zero, List.set_cons_succ, List.tail_cons, List.headD_cons]
        go_wp2_with fail
        go_roundw
        case rel => exact ⟨k + 1, v2, by omega, by go_num, by rw [HNX2.out]; exact HB5.out, HS5.out⟩
        case measure => simp [intOf]; omega
    · obtain rfl : k = n := by omega
      rw [HN.out, List.take_length] at hB
      have c4 := hB.c4
      have hl : (bs ++ gv x hh ls).length = n0 + q := by rw [List.length_append, HN0.out, HQ.out]
      rw [hl] at c4
      have hw : IntKind.i64.wrap (((n0 + q : Nat) : Int) - (n0 : Int)) = (q : Int) := by rw [IntKind.wrap_i64]; omega
      generalize n0 + q = n2 at *
      have HB9 := Lib.hid hB
      clear hB hl
      go_wp2_with fail
      go_ret
      exact ⟨rfl, v1, HB9.out, hS⟩
end Go.Proofs.YthcebnfdapcllaaGreatDoor.An
namespace Go.Proofs.YthcebnfdapcllaaGreatDoor.An
open Go.RowKit Mem Sc NN.Rg2
open Pg (Pl pbit gv Ws)
set_option maxRecDepth 100000
def mt (x : Pl) (bs : List Bool) (m : Nat) (hh : Int) (id : List UInt8) : Bool := !x.due hh || (bs[m]? == some (pbit x.s id))
set_option maxHeartbeats 4000000 in
theorem meet_at {w : World} {b : Nat} {v : Value} {x : Pl} {bs : List Bool} {m : Nat} (h : BookAt w b v x bs m) (hh : Int) (id : List UInt8) (hid : id.length = 32) (hT : Tab w) :
    Calls Tryz.prog 58 #[.pointer (some ⟨b, 0, none⟩), .int .i64 hh, .agg (bytesV id)] w fun r w' => r = .returned (.bool (mt x bs m hh id)) ∧ BookAt w' b v x bs (m + if x.due hh && mt x bs m hh id then 1 else 0) ∧ PenStep w w' b v v := by
  have hmt : mt x bs m hh id = (!x.due hh || (bs[m]? == some (pbit x.s id))) := rfl
  obtain ⟨g, hg⟩ : ∃ g, mt x bs m hh id = g := ⟨_, rfl⟩
  obtain ⟨d, hd⟩ : ∃ d, x.due hh = d := ⟨_, rfl⟩
  obtain ⟨z, hz⟩ : ∃ z, pbit x.s id = z := ⟨_, rfl⟩
  have KD := Lib.hid (fun w' => due_at x hh w')
  have KB := Lib.hid (fun w' hT => bit_at x id hid w' hT)
  rw [hz] at KB
  rw [hd] at KD
  rw [hg, hd, hz] at hmt
  rw [hg, hd]
  obtain ⟨m2, hm2⟩ : ∃ m2, (m + if d && g then 1 else 0) = m2 := ⟨_, rfl⟩
  rw [hm2]
  have HM2 : Hid (m2 = if d && g then m + 1 else m) := Lib.hid (by rw [← hm2]; split <;> rfl)
  have HM := Lib.hid hmt
  have H := Lib.hid h
  have HT := Lib.hid hT
  have hone := bytesV_one id
  clear hz hd hg hmt h hT hm2
  go_enter Tryz.func58, Tryz.ntmps58
  go_upto_region 1 with fail
  generalize hw0 : World.alloc _ _ = v0
  have hB : Below w.heap.size w v0 := by rw [← hw0]; exact (Below.refl _ _).alloc (Nat.le_refl _) _
  have hI : Has v0 w.heap.size (bytesV id) 28 := by rw [← hw0]; exact Has.new _ _
  clear hw0
  obtain ⟨bI, hbI⟩ : ∃ bI, bI = w.heap.size := ⟨_, rfl⟩
  rw [← hbI] at hI ⊢
  clear hbI
  have hP := (H.out.below hB).plan
  go_wp2_with (with_reducible refine pl_load_mid rfl _ rfl b rfl x hP ?_)
  refine (KD.out _).mono ?_
  rintro r v1 ⟨rfl, hb⟩
  replace hI := below_has hb hI hI.lt
  replace hB := hB.trans (hb.mono hB.size)
  clear hb hP KD
  cases d
  · obtain rfl : g = true := by rw [HM.out]; rfl
    obtain rfl : m = m2 := HM2.out.symm
    go_wp2_with fail
    go_ret
    exact ⟨rfl, H.out.below hB, PenStep.below hB (PenStep.refl _ _ _)⟩
  · have hB1 := H.out.below hB
    have KL : ∀ w', Below v1.heap.size v1 w' → Calls Tryz.prog 74 #[.pointer (some ⟨b, 0, none⟩)] w' fun r w'' => r = .returned (.int .i64 ((bs.length - m : Nat) : Int)) ∧ Below w'.heap.size w' w'' := fun w' hb => left_at (hB1.below hb)
    have HKL := Lib.hid KL
    have HB1 := Lib.hid hB1
    have hm := hB1.met
    clear KL hB1
    by_cases hl : bs.length = m
    · obtain rfl : g = false := by
        rw [HM.out, List.getElem?_eq_none (by omega)]; rfl
      obtain rfl : m = m2 := HM2.out.symm
      have hl0 : ((bs.length - m : Nat) : Int) = 0 := by omega
      rw [hl0] at HKL
      go_upto_region 5 with fail
      refine wp_tab (fun _ _ w' => Below v1.heap.size v1 w') 99 98 [1] [.pointer (some ⟨b, 0, none⟩), .int .i64 0, .bool true, .bool true, undef, undef, undef, undef, undef, undef, undef, undef, undef, undef, undef, undef, undef, .bool true] (Below.refl _ _).drew ⟨fun _ _ w' _ _ hC => .call ((HKL.out _ hC).mono fun e w'' h => ⟨h.1, hC.trans (h.2.mono hC.size)⟩), trivial⟩ ?_
      intro w5 hC
      have hB5 := hB.trans (hC.mono hB.size)
      clear hC hI HKL
      simp only [finT, List.set_cons_zero, List.set_cons_succ, List.tail_cons, List.headD_cons]
      go_wp2_with fail
      go_ret
      exact ⟨rfl, H.out.below hB5, PenStep.below hB5 (PenStep.refl _ _ _)⟩
    · have hml : m < bs.length := by omega
      obtain ⟨l, hll⟩ : ∃ l : Int, ((bs.length - m : Nat) : Int) = l := ⟨_, rfl⟩
      have hl0 : (l == (0 : Int)) = false := by rw [← hll, beq_eq_false_iff_ne]; omega
      rw [hll] at HKL
      have KW : ∀ w', Below v1.heap.size v1 w' → Calls Tryz.prog 75 #[.pointer (some ⟨b, 0, none⟩), .int .i64 (m : Int)] w' fun r w'' => r = .returned (.bool bs[m]) ∧ w' = w'' := fun w' hb => wbit_at (HB1.out.below hb) m hml
      have hgz : g = (bs[m] == z) := by rw [HM.out, List.getElem?_eq_getElem hml, Bool.not_true, Bool.false_or]; rfl
      have HKW := Lib.hid KW
      generalize bs[m] = y at *
      obtain ⟨ne, hne⟩ : ∃ ne, (y != z) = ne := ⟨_, rfl⟩
      have hgn : g = !ne := by rw [hgz, ← hne]; cases y <;> cases z <;> rfl
      subst hgn
      have KI : ∀ w', Below v1.heap.size v1 w' → w'.rangeAt bI 0 (Lib.byteCells id) := fun w' hb j u hu => by
        rw [Has.cell (below_has hb hI hI.lt) (0 + j), ← hu, Nat.zero_add, ← Array.getElem?_toList, bytesV_list]
      have HKI := Lib.hid KI
      have KT : ∀ w', Below v1.heap.size v1 w' → Tab w' := fun w' hb => HT.out.below (hB.trans (hb.mono hB.size))
      have HKT := Lib.hid KT
      clear KI KW KT hll hgz hI
      go_upto_region 5 with fail
      refine wp_tab (fun _ _ w' => Below v1.heap.size v1 w') 99 98 [1, 2, 8, 9, 13, 14, 15, 16] [.pointer (some ⟨b, 0, none⟩), .int .i64 l, .bool false, .bool false, .pointer (some ⟨b, 0, none⟩), .pointer (some ⟨b, 0, none⟩), .pointer (some ⟨b, 0, none⟩), .pointer (some ⟨b, 5, none⟩), .int .i64 (m : Int), .bool y, .pointer (some ⟨b, 0, none⟩), .pointer (some ⟨b, 0, none⟩), .pointer (some ⟨b, 0, none⟩), .agg (plA x), .agg (bytesV id), .bool z, .bool ne, .bool ne] (Below.refl _ _).drew
        ⟨fun _ _ w' _ _ hC => .call ((HKL.out _ hC).mono fun e w'' h => ⟨h.1, hC.trans (h.2.mono hC.size)⟩), fun _ _ w' _ _ hC => .val (ex_eqi rfl rfl rfl hl0) hC, fun _ _ w' _ _ hC => .val (ex_load_of rfl rfl (ld_i (HB1.out.below hC).c5)) hC, fun _ _ w' _ _ hC => .call ((HKW.out _ hC).mono fun e w'' h => ⟨h.1, h.2 ▸ hC⟩), fun _ _ w' _ _ hC => .val (ex_load_pl rfl rfl (HB1.out.below hC).plan) hC, fun _ _ w' _ _ hC => .val (pex_load_hl rfl rfl (HKI.out _ hC) hid) hC, fun _ _ w' _ _ hC => .call ((KB.out _ (HKT.out _ hC)).mono fun e w'' h => ⟨h.1, hC.trans (h.2.mono hC.size)⟩), fun _ _ w' _ _ hC => .val (ex_neqb rfl rfl rfl hne) hC, trivial⟩ ?_
      intro w5 hC
      have hB5 := hB.trans (hC.mono hB.size)
      have hK5 := H.out.below hB5
      have c5 := hK5.c5
      have f5 := hK5.cell.free 5
      have hw : IntKind.i64.wrap ((m : Int) + 1) = ((m + 1 : Nat) : Int) := by rw [IntKind.wrap_i64]; have := hK5.few; omega
      obtain ⟨m1, hm1⟩ : ∃ m1, m + 1 = m1 := ⟨_, rfl⟩
      rw [hm1] at hw
      have HM1 := Lib.hid hm1
      have HK5 := Lib.hid hK5
      have HB5 := Lib.hid hB5
      clear hC HKL HKW HKI HKT KB hm1 hK5 hB5 hne
      simp only [finT, List.set_cons_zero, List.set_cons_succ, List.tail_cons, List.headD_cons]
      cases ne
      · have hm2 : m2 = m1 := HM2.out.trans HM1.out
        clear HM2
        go_wp2_with fail
        go_ret
        refine ⟨rfl, ?_, pen_set (PenStep.below HB5.out (PenStep.refl _ _ _)) (.inl rfl)⟩
        obtain ⟨ws, ho, hw, hr⟩ := HK5.out.own
        have hk := BkW.meet ⟨HK5.out.cell, ho⟩ m1
        rw [hm2]
        exact ⟨hk.cell, ⟨ws, hk.own, hw, hr⟩, HK5.out.good, by have := HM1.out; omega, HK5.out.few⟩
      · obtain rfl : m = m2 := HM2.out.symm
        go_wp2_with fail
        go_ret
        exact ⟨rfl, HK5.out, PenStep.below HB5.out (PenStep.refl _ _ _)⟩
end Go.Proofs.YthcebnfdapcllaaGreatDoor.An
