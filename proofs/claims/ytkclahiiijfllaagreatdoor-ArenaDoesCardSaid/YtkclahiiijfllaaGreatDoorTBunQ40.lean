import Derived.Test.YtkclahiiijfllaaGreatDoorTIdm
import Derived.Test.YtkclahiiijfllaaGreatDoorTBunQ39
set_option maxRecDepth 100000
set_option maxHeartbeats 4000000
namespace Go.Proofs.YtkclahiiijfllaaGreatDoor.An
open Go.RowKit Mem Sc NN.Rg2
open Ar (Ent Ru entZ Ok)
section
variable {ρ : Operand → Value} {o : Oper} {w : World}
theorem efield0 (w : World) (g : Nat) : (Instr.fieldAt 44 (.pointer (some ⟨g, 0, none⟩)) 0).run Tryz.prog w = .ok (.pointer (some ⟨g, 0, none⟩)) w := by kernel_rfl
theorem efield2 (w : World) (g : Nat) : (Instr.fieldAt 44 (.pointer (some ⟨g, 0, none⟩)) 2).run Tryz.prog w = .ok (.pointer (some ⟨g, 100, none⟩)) w := by kernel_rfl
theorem efield3 (w : World) (g : Nat) : (Instr.fieldAt 44 (.pointer (some ⟨g, 0, none⟩)) 3).run Tryz.prog w = .ok (.pointer (some ⟨g, 101, none⟩)) w := by kernel_rfl
theorem rfield3 (w : World) (g : Nat) : (Instr.fieldAt 65 (.pointer (some ⟨g, 0, none⟩)) 3).run Tryz.prog w = .ok (.pointer (some ⟨g, 85, none⟩)) w := by kernel_rfl
theorem qyg_ {T : TypeId} {x y : Operand} {xs ys : Array Value} {v : Value} (hg : Tryz.prog.eqGuardType Tryz.prog.depth T = false) (ho : o.op = .binOp .neq T x y T) (hx : ρ x = .agg xs) (hy : ρ y = .agg ys) (h : ∀ w, (binOp .neq T (.agg xs) (.agg ys)).run Tryz.prog w = .ok v w) : (execOp ρ o).run Tryz.prog w = .ok (.value v) w := by
 unfold execOp
 simp only [ho, hx, hy, Sem.run_bind, Sem.run_pure, run_eqGuard_agg w .neq T x y xs ys hg, Result.andThen_ok, h]
theorem qsz_ {x y : Operand} {c d : Int} (ho : o.op = .binOp .neq 3 x y 3) (hx : ρ x = .int .i64 c) (hy : ρ y = .int .i64 d) : (execOp ρ o).run Tryz.prog w = .ok (.value (.bool (c != d))) w := by
 unfold execOp
 simp only [ho, hx, hy]
 kernel_rfl
theorem ex_subi {x y : Operand} {c d z : Int} (ho : o.op = .binOp .sub 3 x y 3) (hx : ρ x = .int .i64 c) (hy : ρ y = .int .i64 d) (hz : IntKind.i64.wrap (c - d) = z) : (execOp ρ o).run Tryz.prog w = .ok (.value (.int .i64 z)) w := by
 subst hz
 unfold execOp
 simp only [ho, hx, hy]
 kernel_rfl
theorem ex_nots {x : Operand} {c : Bool} (ho : o.op = .unOp .not 4 x) (hx : ρ x = .bool c) : (execOp ρ o).run Tryz.prog w = .ok (.value (.bool (!c))) w := by
 unfold execOp
 simp only [ho, hx]
 kernel_rfl
theorem qacu_ (w : World) (g j n c : Nat) (hj : j < n) : (Instr.indexAt 59 (.slice (some ⟨g, 0, none⟩) n c) (.int .i64 (j : Int))).run Tryz.prog w = .ok (.pointer (some ⟨g, j, none⟩)) w := by
 go_simp
end
structure Smk (w : World) (a b k : Nat) (x : Hd) (u : Int) (ht wk : Nat) : Prop where
 ok : x.ok
 hl : ht ≤ 1000
 atk : ∀ w', Below w.heap.size w w' → Calls Tryz.prog 12 #[.pointer (some ⟨a, 0, none⟩), .int .i64 (k : Int)] w' fun e w'' => e = .returned (.tuple #[.agg (enA ⟨x, x.id, u, (ht : Int), wk⟩), .bool true]) ∧ Below w'.heap.size w' w''
 fnd : ∀ w', Below w.heap.size w w' → Calls Tryz.prog 15 #[.pointer (some ⟨a, 0, none⟩), .agg (bytesV x.id)] w' fun e w'' => e = .returned (.int .i64 (k : Int)) ∧ Below w'.heap.size w' w''
 plc : ∀ w', Below w.heap.size w w' → Calls Tryz.prog 45 #[.pointer (some ⟨b, 0, none⟩), .int .i64 (k : Int)] w' fun e w'' => ∃ v, e = .returned v ∧ (∃ ad c, v = .slice ad (ht + 1) c) ∧ Below w'.heap.size w' w''
def SmE (a b bE gA k n cA : Nat) (x : Hd) (u : Int) (ht : Nat) : Nat → Value → Prop
 | 0, v => v = .bool true
 | 1, v | 2, v | 6, v | 7, v | 8, v | 13, v | 14, v | 15, v | 25, v | 26, v | 27, v | 35, v | 36, v | 37, v | 43, v | 44, v => v = .bool false
 | 3, v => v = .pointer (some ⟨bE, 0, none⟩)
 | 4, v | 5, v | 11, v => v = .agg (hdA x)
 | 9, v | 39, v => v = .pointer (some ⟨bE, 68, none⟩)
 | 10, v | 12, v | 40, v => v = .agg (bytesV x.id)
 | 16, v => v = .pointer (some ⟨bE, 100, none⟩)
 | 17, v | 24, v => v = .int .i64 u
 | 18, v | 19, v | 30, v => v = .pointer (some ⟨b, 0, none⟩)
 | 20, v => v = .pointer (some ⟨b, 85, none⟩)
 | 21, v => v = .slice (some ⟨gA, 0, none⟩) n cA
 | 22, v | 31, v | 41, v | 42, v => v = .int .i64 (k : Int)
 | 23, v => v = .pointer (some ⟨gA, k, none⟩)
 | 28, v => v = .pointer (some ⟨bE, 101, none⟩)
 | 29, v | 34, v => v = .int .i64 (ht : Int)
 | 32, v => ∃ ad c, v = .slice ad (ht + 1) c
 | 33, v => v = .int .i64 ((ht + 1 : Nat) : Int)
 | 38, v => v = .pointer (some ⟨a, 0, none⟩)
 | _, _ => b = b
set_option maxHeartbeats 8000000 in
theorem same_w (a b : Nat) (p : NN.Pr) (hp : p.ok) (room n gH cH gA cA : Nat) (vI vW : Value) (hs : List Hd) (hok : ∀ x ∈ hs, x.ok) (hn : n = hs.length) (hl : n ≤ 900) (ups : List Int) (w : World)
  (hA : Has w b (rfA p (.slice (some ⟨gH, 0, none⟩) n cH) vI (.slice (some ⟨gA, 0, none⟩) n cA) vW room) 65) (rH : w.ownsRow 0 30 68 (.slice (some ⟨gH, 0, none⟩) n cH) hs.length (hs.flatMap hdC)) (rA : w.ownsRow 0 3 1 (.slice (some ⟨gA, 0, none⟩) n cA) n (ups.map (Value.int .i64)))
  (KL : HK_ w 13 #[.pointer (some ⟨a, 0, none⟩)] (.int .i64 (n : Int))) (KR : HK_ w 14 #[.pointer (some ⟨a, 0, none⟩)] (.int .i64 (room : Int)))
  (KP : Hid (∀ k, k < n → ∃ x u ht wk, hs[k]? = some x ∧ ups[k]? = some u ∧ Smk w a b k x u ht wk)) (KI : Hid (∀ (x : Hd) w', x.ok → Calls Tryz.prog 29 #[.agg (hdA x)] w' fun e w'' => e = .returned (.agg (bytesV x.id)) ∧ Below w'.heap.size w' w'')) :
  Ca_ 20 #[.pointer (some ⟨a, 0, none⟩), .pointer (some ⟨b, 0, none⟩)] w (.bool true) := by
 have HR := h_ (And.intro hA (And.intro rH rA))
 have HN := h_ hn
 have HO := h_ hok
 have u83 : ∀ d os, (Sort.grow (redrawn w d) os).cell? ⟨b, 83, none⟩ = some (.slice (some ⟨gH, 0, none⟩) n cH) := cell_regrown (rf83 hA hp)
 have u87 : ∀ d os, (Sort.grow (redrawn w d) os).cell? ⟨b, 87, none⟩ = some (.int .i64 (room : Int)) := cell_regrown (rf87 hA hp)
 have HBr : ∀ d os, Below w.heap.size w (Sort.grow (redrawn w d) os) := fun d os => below_regrown w d os
 clear hA rH rA hn hok
 go_enter Tryz.func20, Tryz.ntmps20
 go_upto_region 1 with fail
 refine wp_region_quiet_below (by kernel_rfl) (by kernel_rfl) ?_
 repeat (first
  | go_big_quiet_step ((first | (go_at_call 13; exact Calls.regrown_of (KL.out _ (HBr _ _))) | (go_at_call 14; exact Calls.regrown_of (KR.out _ (HBr _ _))))))
 refine wpQuiet_nil ?_
 intro v1 hw'
 have hB := qap_ v1 hw'
 clear hw' u83 u87 HBr (KL : HK_ w 13 #[.pointer (some ⟨a, 0, none⟩)] (.int .i64 (n : Int))) (KR : HK_ w 14 #[.pointer (some ⟨a, 0, none⟩)] (.int .i64 (room : Int)))
 have k1 := Kp.of (F := fun _ => False) hB
 have c83 := rf83 (k1.has HR.out.1 (fun h => h)) hp
 clear k1
 go_wp2_with fail
 go_loopw [31] (fun i wr => ∃ k : Nat, k ≤ n ∧ i = .int .i64 (k : Int) ∧ Below w.heap.size w wr) (fun i _ => n - (intOf i).toNat)
 case atStart => exact ⟨0, by omega, rfl, hB⟩
 case round =>
  clear hB c83
  obtain ⟨k, hk, rfl, hB⟩ := hrel
  by_cases hlt : k < n
  ·obtain ⟨x, u, ht, wk, hx, hu, HS⟩ := KP.out k hlt
   have HS := h_ HS
   have hxo := HS.out.ok
   have kr := Kp.of (F := fun _ => False) hB
   obtain ⟨g2, c2, e2, rx⟩ := hds_at (kp_row HR.out.2.1 kr (fun _ _ h => h)) HO.out hx
   obtain rfl : gH = g2 := by cases e2; rfl
   have HU : Hid (∀ w', Below w.heap.size w w' → w'.cell? ⟨gA, k, none⟩ = some (.int .i64 u)) := h_ fun w' hb => by
    obtain ⟨g3, c3, e3, r3⟩ := qjz_ (kp_row HR.out.2.2 (Kp.of (F := fun _ => False) hb) (fun _ _ h => h)) hu
    obtain rfl : gA = g3 := by cases e3; rfl
    exact r3
   clear e2 hx hu kr
   have zh := qi_ hxo
   have zz := qv_ hdZ_ok
   have za := qv_ hxo
   have hnew := qlx_ wr
   have hb2 : Below wr.heap.size wr ((wr.alloc (.cells Tryz.zeroCells30 30)).setRow wr.heap.size (hdA x)) := below_setRow ((Below.refl _ _).alloc (Nat.le_refl _) _) (Nat.le_refl _) _
   have hH : HdAt ((wr.alloc (.cells Tryz.zeroCells30 30)).setRow wr.heap.size (hdA x)) wr.heap.size x := Has.row hnew _
   have hB2 := tb_ hB hb2
   clear hB
   go_upto_region 6 with (first
    | (with_reducible refine qad_ rfl _ rfl gH (k * 68) rfl x rx zh ?_)
    | (with_reducible refine qbm_ rfl _ _ rfl _ _ x rfl rfl rfl za hnew zz ?_))
   generalize World.setRow _ _ _ = v6 at *
   obtain ⟨bH, hbH⟩ : ∃ x, x = wr.heap.size := ⟨_, rfl⟩
   rw [← hbH] at hH ⊢
   clear hbH hb2 hnew rx
   have KA := h_ (HS.out.atk _ hB2)
   go_wp2_with fail
   refine KA.out.mono ?_
   rintro e v7 ⟨rfl, hb⟩
   replace hH := hH.on hb
   replace hB2 := tb_ hB2 hb
   clear hb KA
   have hE0 : (⟨x, x.id, u, (ht : Int), wk⟩ : En).ok := ⟨hxo, qm_ x⟩
   have ze := qbh_ hE0
   have z0 := qbh_ enZ_ok
   have hb3 := qlo_ v7 44 Tryz.zeroCells44 (enA ⟨x, x.id, u, (ht : Int), wk⟩)
   have hE := qyd_ v7 ⟨x, x.id, u, (ht : Int), wk⟩
   have hnew := qfa_ v7
   go_upto_region 7 with (with_reducible refine qeq_ rfl _ _ rfl _ _ ⟨x, x.id, u, (ht : Int), wk⟩ rfl rfl rfl ze hnew z0 ?_)
   generalize World.setRow _ _ _ = v8 at *
   replace hH := hH.on hb3
   replace hB2 := tb_ hB2 hb3
   obtain ⟨bE, hbE⟩ : ∃ x, x = v7.heap.size := ⟨_, rfl⟩
   rw [← hbE] at hE ⊢
   clear hbE hb3 hnew
   have qh := fun w => hd_neq x x hxo hxo false (by simp) w
   have qi := fun w => hn_neq x.id x.id (qm_ x) (qm_ x) false (by simp) w
   have i32 := qm_ x
   have HT : Hid (IntKind.i64.wrap (((ht + 1 : Nat) : Int) - 1) = (ht : Int)) := h_ (by have := HS.out.hl; rw [IntKind.wrap_i64]; omega)
   refine qk_ (by kernel_rfl) (fun w' => Below v8.heap.size v8 w') (fun i v' _ => SmE a b bE gA k n cA x u ht i v') (fun _ _ _ => True) (fun _ _ => True) (fun _ _ => trivial) (fun _ _ _ _ _ _ h => h) (by kernel_rfl) (Below.refl _ _).drew (fun _ _ => trivial) ?_ ?_
   ·intro i o listed a' wx ho' hnl hdep hinv
    have hC := hinv.c
    have hi : i < 45 := (Array.getElem?_eq_some_iff.1 ho').1
    have hEx := EnAt.on hE hC
    have hHx := HdAt.on hH hC
    have hBx := tb_ hB2 hC
    have hAx := (Kp.of (F := fun _ => False) hBx).has HR.out.1 (fun h => h)
    have rId : wx.rangeAt bE 68 (Lib.byteCells x.id) := qbk_ (A := hdC x) (cs := Lib.byteCells x.id) (C := .int .i64 u :: .int .i64 (ht : Int) :: (NN.numC wk).toList) (o := 68) hEx zh
    have cU := EnAt.up hEx hE0 (z := u) (h_ rfl)
    have cT := EnAt.ht hEx hE0 (z := (ht : Int)) (h_ rfl)
    obtain rfl | rfl | rfl | rfl | rfl | rfl | rfl | rfl | rfl | rfl | rfl | rfl | rfl | rfl | rfl | rfl | rfl | rfl | rfl | rfl | rfl | rfl | rfl | rfl | rfl | rfl | rfl | rfl | rfl | rfl | rfl | rfl | rfl | rfl | rfl | rfl | rfl | rfl | rfl | rfl | rfl | rfl | rfl | rfl | rfl : i = 0 ∨ i = 1 ∨ i = 2 ∨ i = 3 ∨ i = 4 ∨ i = 5 ∨ i = 6 ∨ i = 7 ∨ i = 8 ∨ i = 9 ∨ i = 10 ∨ i = 11 ∨ i = 12 ∨ i = 13 ∨ i = 14 ∨ i = 15 ∨ i = 16 ∨ i = 17 ∨ i = 18 ∨ i = 19 ∨ i = 20 ∨ i = 21 ∨ i = 22 ∨ i = 23 ∨ i = 24 ∨ i = 25 ∨ i = 26 ∨ i = 27 ∨ i = 28 ∨ i = 29 ∨ i = 30 ∨ i = 31 ∨ i = 32 ∨ i = 33 ∨ i = 34 ∨ i = 35 ∨ i = 36 ∨ i = 37 ∨ i = 38 ∨ i = 39 ∨ i = 40 ∨ i = 41 ∨ i = 42 ∨ i = 43 ∨ i = 44 := by omega
    all_goals obtain rfl := Option.some.inj ho'
    ·exact dv_ 0 hinv (qa_ rfl) (NN.qs_ rfl) (hinv.old' 8 (by kernel_rfl)) trivial
    ·exact dv_ 1 hinv (qa_ rfl) (ex_nots rfl (gd_ hinv hdep 0 42)) rfl trivial
    ·exact dv_ 2 hinv (qa_ rfl) (NN.qs_ rfl) (gd_ hinv hdep 1 43) trivial
    ·exact dv_ 3 hinv (gy_ hinv hdep 2 44 rfl) (qae_ rfl (hinv.old' 7 (by kernel_rfl)) (efield0 wx bE)) rfl trivial
    ·exact dv_ 4 hinv (gy_ hinv hdep 2 44 rfl) (qbz_ rfl (gd_ hinv hdep 3 45) hEx.head zh) rfl trivial
    ·exact dv_ 5 hinv (gy_ hinv hdep 2 44 rfl) (qcm_ rfl (hinv.old' 6 (by kernel_rfl)) hHx za) rfl trivial
    ·exact dv_ 6 hinv (gy_ hinv hdep 2 44 rfl) (qyg_ qyt_ rfl (gd_ hinv hdep 4 46) (gd_ hinv hdep 5 47) qh) rfl trivial
    ·exact dv_ 7 hinv (qa_ rfl) (qge_ rfl (gd_ hinv hdep 2 44)) (by rw [if_neg (by decide)]; exact (gd_ hinv hdep 6 48)) trivial
    ·exact dv_ 8 hinv (qa_ rfl) (NN.qs_ rfl) (gd_ hinv hdep 7 49) trivial
    ·exact dv_ 9 hinv (gy_ hinv hdep 8 50 rfl) (qae_ rfl (hinv.old' 7 (by kernel_rfl)) (efield1 wx bE)) rfl trivial
    ·exact dv_ 10 hinv (gy_ hinv hdep 8 50 rfl) (qgo_ rfl (gd_ hinv hdep 9 51) rId i32) rfl trivial
    ·exact dv_ 11 hinv (gy_ hinv hdep 8 50 rfl) (qcm_ rfl (hinv.old' 6 (by kernel_rfl)) hHx za) rfl trivial
    ·exact dC_ (S := T2_) 12 hinv (gy_ hinv hdep 8 50 rfl) (f := 29) (args := #[a'.eval (.tmp 53)]) (by kernel_rfl) (by rw [show a'.eval (.tmp 53) = _ from (gd_ hinv hdep 11 53)]; exact KI.out x wx hxo) (fun w' hb => ⟨tb_ hC hb, trivial, rfl, trivial⟩)
    ·exact dv_ 13 hinv (gy_ hinv hdep 8 50 rfl) (qyg_ hplain rfl (gd_ hinv hdep 10 52) (gd_ hinv hdep 12 54) qi) rfl trivial
    ·exact dv_ 14 hinv (qa_ rfl) (qge_ rfl (gd_ hinv hdep 8 50)) (by rw [if_neg (by decide)]; exact (gd_ hinv hdep 13 55)) trivial
    ·exact dv_ 15 hinv (qa_ rfl) (NN.qs_ rfl) (gd_ hinv hdep 14 56) trivial
    ·exact dv_ 16 hinv (gy_ hinv hdep 15 57 rfl) (qae_ rfl (hinv.old' 7 (by kernel_rfl)) (efield2 wx bE)) rfl trivial
    ·exact dv_ 17 hinv (gy_ hinv hdep 15 57 rfl) (NN.qbb_ rfl (gd_ hinv hdep 16 58) cU) rfl trivial
    ·exact dv_ 18 hinv (gy_ hinv hdep 15 57 rfl) (NN.qs_ rfl) (hinv.old' 1 (by kernel_rfl)) trivial
    ·exact dv_ 19 hinv (gy_ hinv hdep 15 57 rfl) (ex_nil rfl (gd_ hinv hdep 18 60)) rfl trivial
    ·exact dv_ 20 hinv (gy_ hinv hdep 15 57 rfl) (qae_ rfl (gd_ hinv hdep 19 61) (rfield3 wx b)) rfl trivial
    ·exact dv_ 21 hinv (gy_ hinv hdep 15 57 rfl) (qdw_ rfl (gd_ hinv hdep 20 62) (rf85 hAx hp)) rfl trivial
    ·exact dv_ 22 hinv (gy_ hinv hdep 15 57 rfl) (NN.qs_ rfl) (hinv.old' 5 (by kernel_rfl)) trivial
    ·exact dv_ 23 hinv (gy_ hinv hdep 15 57 rfl) (ex_idx rfl (gd_ hinv hdep 21 63) (gd_ hinv hdep 22 64) (qacu_ wx gA k n cA hlt)) rfl trivial
    ·exact dv_ 24 hinv (gy_ hinv hdep 15 57 rfl) (NN.qbb_ rfl (gd_ hinv hdep 23 65) (HU.out wx hBx)) rfl trivial
    ·exact dv_ 25 hinv (gy_ hinv hdep 15 57 rfl) (qsz_ rfl (gd_ hinv hdep 17 59) (gd_ hinv hdep 24 66)) (congrArg Value.bool (by simp)) trivial
    ·exact dv_ 26 hinv (qa_ rfl) (qge_ rfl (gd_ hinv hdep 15 57)) (by rw [if_neg (by decide)]; exact (gd_ hinv hdep 25 67)) trivial
    ·exact dv_ 27 hinv (qa_ rfl) (NN.qs_ rfl) (gd_ hinv hdep 26 68) trivial
    ·exact dv_ 28 hinv (gy_ hinv hdep 27 69 rfl) (qae_ rfl (hinv.old' 7 (by kernel_rfl)) (efield3 wx bE)) rfl trivial
    ·exact dv_ 29 hinv (gy_ hinv hdep 27 69 rfl) (NN.qbb_ rfl (gd_ hinv hdep 28 70) cT) rfl trivial
    ·exact dv_ 30 hinv (gy_ hinv hdep 27 69 rfl) (NN.qs_ rfl) (hinv.old' 1 (by kernel_rfl)) trivial
    ·exact dv_ 31 hinv (gy_ hinv hdep 27 69 rfl) (NN.qs_ rfl) (hinv.old' 5 (by kernel_rfl)) trivial
    ·refine dA_ (S := T2_) 32 hinv (gy_ hinv hdep 27 69 rfl) (f := 45) (args := #[a'.eval (.tmp 72), a'.eval (.tmp 73)]) (by kernel_rfl) ?_
     rw [show a'.eval (.tmp 72) = _ from (gd_ hinv hdep 30 72), show a'.eval (.tmp 73) = _ from (gd_ hinv hdep 31 73)]
     refine (HS.out.plc wx hBx).mono ?_
     rintro e w' ⟨v, rfl, hv, hb⟩
     exact ⟨v, rfl, tb_ hC hb, trivial, hv, trivial⟩
    ·obtain ⟨ad, c, e74⟩ : ∃ ad c, a'.eval (.tmp 74) = .slice ad (ht + 1) c := (gd_ hinv hdep 32 74)
     exact dv_ 33 hinv (gy_ hinv hdep 27 69 rfl) (ex_len rfl e74) rfl trivial
    ·exact dv_ 34 hinv (gy_ hinv hdep 27 69 rfl) (ex_subi rfl (gd_ hinv hdep 33 75) rfl HT.out) rfl trivial
    ·exact dv_ 35 hinv (gy_ hinv hdep 27 69 rfl) (qsz_ rfl (gd_ hinv hdep 29 71) (gd_ hinv hdep 34 76)) (congrArg Value.bool (by simp)) trivial
    ·exact dv_ 36 hinv (qa_ rfl) (qge_ rfl (gd_ hinv hdep 27 69)) (by rw [if_neg (by decide)]; exact (gd_ hinv hdep 35 77)) trivial
    ·exact dv_ 37 hinv (qa_ rfl) (NN.qs_ rfl) (gd_ hinv hdep 36 78) trivial
    ·exact dv_ 38 hinv (gy_ hinv hdep 37 79 rfl) (NN.qs_ rfl) (hinv.old' 0 (by kernel_rfl)) trivial
    ·exact dv_ 39 hinv (gy_ hinv hdep 37 79 rfl) (qae_ rfl (hinv.old' 7 (by kernel_rfl)) (efield1 wx bE)) rfl trivial
    ·exact dv_ 40 hinv (gy_ hinv hdep 37 79 rfl) (qgo_ rfl (gd_ hinv hdep 39 81) rId i32) rfl trivial
    ·exact dC_ (S := T2_) 41 hinv (gy_ hinv hdep 37 79 rfl) (f := 15) (args := #[a'.eval (.tmp 80), a'.eval (.tmp 82)]) (by kernel_rfl) (by rw [show a'.eval (.tmp 80) = _ from (gd_ hinv hdep 38 80)]; rw [show a'.eval (.tmp 82) = _ from (gd_ hinv hdep 40 82)]; exact HS.out.fnd wx hBx) (fun w' hb => ⟨tb_ hC hb, trivial, rfl, trivial⟩)
    ·exact dv_ 42 hinv (gy_ hinv hdep 37 79 rfl) (NN.qs_ rfl) (hinv.old' 5 (by kernel_rfl)) trivial
    ·exact dv_ 43 hinv (gy_ hinv hdep 37 79 rfl) (qsz_ rfl (gd_ hinv hdep 41 83) (gd_ hinv hdep 42 84)) (congrArg Value.bool (by simp)) trivial
    ·exact dv_ 44 hinv (qa_ rfl) (qge_ rfl (gd_ hinv hdep 37 79)) (by rw [if_neg (by decide)]; exact (gd_ hinv hdep 43 85)) trivial
   intro listed a' v9 hall hinv
   have hC := hinv.c
   obtain ⟨u, hu⟩ : ∃ u : Nat → Value, ∀ t, u t = a'.eval (.tmp t) := ⟨_, fun _ => rfl⟩
   rw [qbf_ a' 88 u hinv.tsize hinv.defers hu]
   have f0 := hinv.old' 0 (by kernel_rfl)
   have f1 := hinv.old' 1 (by kernel_rfl)
   have f2 := hinv.old' 2 (by kernel_rfl)
   have f3 := hinv.old' 3 (by kernel_rfl)
   have f4 := hinv.old' 4 (by kernel_rfl)
   have f5 := hinv.old' 5 (by kernel_rfl)
   have f6 := hinv.old' 6 (by kernel_rfl)
   have f7 := hinv.old' 7 (by kernel_rfl)
   have f8 := hinv.old' 8 (by kernel_rfl)
   have f9 := hinv.old' 9 (by kernel_rfl)
   have f10 := hinv.old' 10 (by kernel_rfl)
   have f11 := hinv.old' 11 (by kernel_rfl)
   have f12 := hinv.old' 12 (by kernel_rfl)
   have f13 := hinv.old' 13 (by kernel_rfl)
   have f14 := hinv.old' 14 (by kernel_rfl)
   have f15 := hinv.old' 15 (by kernel_rfl)
   have f16 := hinv.old' 16 (by kernel_rfl)
   have f17 := hinv.old' 17 (by kernel_rfl)
   have f18 := hinv.old' 18 (by kernel_rfl)
   have f19 := hinv.old' 19 (by kernel_rfl)
   have f20 := hinv.old' 20 (by kernel_rfl)
   have f21 := hinv.old' 21 (by kernel_rfl)
   have f22 := hinv.old' 22 (by kernel_rfl)
   have f23 := hinv.old' 23 (by kernel_rfl)
   have f24 := hinv.old' 24 (by kernel_rfl)
   have f25 := hinv.old' 25 (by kernel_rfl)
   have f26 := hinv.old' 26 (by kernel_rfl)
   have f27 := hinv.old' 27 (by kernel_rfl)
   have f28 := hinv.old' 28 (by kernel_rfl)
   have f29 := hinv.old' 29 (by kernel_rfl)
   have f30 := hinv.old' 30 (by kernel_rfl)
   have f31 := hinv.old' 31 (by kernel_rfl)
   have f32 := hinv.old' 32 (by kernel_rfl)
   have f33 := hinv.old' 33 (by kernel_rfl)
   have f34 := hinv.old' 34 (by kernel_rfl)
   have f35 := hinv.old' 35 (by kernel_rfl)
   have f36 := hinv.old' 36 (by kernel_rfl)
   have f37 := hinv.old' 37 (by kernel_rfl)
   have f38 := hinv.old' 38 (by kernel_rfl)
   have f39 := hinv.old' 39 (by kernel_rfl)
   have f40 := hinv.old' 40 (by kernel_rfl)
   have f41 := hinv.old' 41 (by kernel_rfl)
   have f87 := hinv.old' 87 (by kernel_rfl)
   have f86 := hinv.got 44 _ 86 rfl (hall 44 (by decide)) rfl
   simp only [← hu] at f0 f1 f2 f3 f4 f5 f6 f7 f8 f9 f10 f11 f12 f13 f14 f15 f16 f17 f18 f19 f20 f21 f22 f23 f24 f25 f26 f27 f28 f29 f30 f31 f32 f33 f34 f35 f36 f37 f38 f39 f40 f41 f86 f87
   simp [Act.eval] at f0 f1 f2 f3 f4 f5 f6 f7 f8 f9 f10 f11 f12 f13 f14 f15 f16 f17 f18 f19 f20 f21 f22 f23 f24 f25 f26 f27 f28 f29 f30 f31 f32 f33 f34 f35 f36 f37 f38 f39 f40 f41 f87
   clear hu hinv hall
   simp only [List.range, List.range.loop, List.map_cons, List.map_nil]
   rw [f0, f1, f2, f3, f4, f5, f6, f7, f8, f9, f10, f11, f12, f13, f14, f15, f16, f17, f18, f19, f20, f21, f22, f23, f24, f25, f26, f27, f28, f29, f30, f31, f32, f33, f34, f35, f36, f37, f38, f39, f40, f41, f86, f87]
   clear f0 f1 f2 f3 f4 f5 f6 f7 f8 f9 f10 f11 f12 f13 f14 f15 f16 f17 f18 f19 f20 f21 f22 f23 f24 f25 f26 f27 f28 f29 f30 f31 f32 f33 f34 f35 f36 f37 f38 f39 f40 f41 f86 f87
   replace hB2 := tb_ hB2 hC
   clear hC hH hE HS HU HT qh qi
   go_wp2_with fail
   go_roundw
   case rel => (repeat (apply Exists.intro (α := Value))); exact ⟨k + 1, by omega, by go_num, hB2⟩
   case measure => simp [intOf]; omega
  ·obtain rfl : k = n := by omega
   go_wp2_with fail
   go_ret
   exact ⟨rfl, hB⟩
end Go.Proofs.YtkclahiiijfllaaGreatDoor.An
namespace Go.Proofs.YtkclahiiijfllaaGreatDoor.An
open Go.RowKit Mem Sc NN.Rg2
open Ar (Ent Ru entZ Ok)
theorem same_at {w : World} {F G : Nat → Prop} {B a b : Nat} {r : Ru} {M : List Ent} (hS : ArS w F a r M) (hR : RfS w B G b r M) (hM : Ok r M) (hl : M.length ≤ 900) :
  Ca_ 20 #[.pointer (some ⟨a, 0, none⟩), .pointer (some ⟨b, 0, none⟩)] w (.bool true) := by
 have hpos := hM.pos
 have hR' := hR
 obtain ⟨_, _, _, p, t, vH, vI, vA, vW, ws, h3, _⟩ := hR'
 have rH := h3.rowH
 have rA := h3.rowA
 have hA := h3.has
 rw [List.length_map] at rA
 obtain ⟨gH, cH, rfl⟩ := qbw_ rH (by rw [List.length_map]; exact hpos)
 obtain ⟨gA, cA, rfl⟩ := qbw_ rA hpos
 rw [List.length_map] at rH hA
 refine same_w a b p h3.pok r.room M.length gH cH gA cA vI vW (M.map (Ent.h r.g)) h3.good (by simp) hl (M.map Ent.up) w hA (by rw [List.length_map]; exact rH) rA (h_ fun w' hb => len_at (hS.below hb)) (h_ fun w' hb => qxx_ (hS.below hb)) (h_ fun k hk => ?_) (h_ fun x w' hx => rid_at x hx w')
 have he : M[k]? = some M[k] := List.getElem?_eq_getElem hk
 generalize M[k] = e at he
 have hx : (M.map (Ent.h r.g))[k]? = some (e.h r.g) := by rw [List.getElem?_map, he]; rfl
 have hle := (hM.chain k e he).1
 refine ⟨e.h r.g, e.up, e.hs.length, wkOf r e.hs, hx, by rw [List.getElem?_map, he]; rfl, h3.good _ (List.mem_of_getElem? hx), by omega, fun w' hb => at_at (hS.below hb) he (k : Int) rfl, fun w' hb => ?_, fun w' hb => ?_⟩
 ·have := qgn_ (hS.below hb) (e.h r.g).id (qm_ _)
  rwa [Ar.fnd_at hM he] at this
 ·refine (qst_ (hR.below hb) hM hl k e he).mono ?_
  rintro x w'' ⟨v, l, rfl, hv, hb2⟩
  obtain ⟨g, c, rfl⟩ := qbw_ hv (Nat.succ_pos _)
  exact ⟨_, rfl, ⟨_, _, rfl⟩, hb2⟩
theorem qoq_ (x y : Int) (w : World) : Ca_ 16 #[.pointer none, .int .i64 x, .int .i64 y] w (.bool false) := by
 have KH := h_ fun w' => qxw_ x w'
 have hB := Below.refl w.heap.size w
 go_enter Tryz.func16, Tryz.ntmps16
 go_wp2_with fail
 refine (KH.out _).mono ?_
 rintro e v1 ⟨rfl, hb⟩
 replace hB := tb_ hB hb
 go_wp2_with fail
 go_ret
 exact ⟨rfl, hB⟩
def id1 : List UInt8 := [1, 0, 0, 0, 0, 0, 0, 0, 0, 0, 0, 0, 0, 0, 0, 0, 0, 0, 0, 0, 0, 0, 0, 0, 0, 0, 0, 0, 0, 0, 0, 0]
theorem qyh_ : id1.length = 32 := rfl
theorem qta_ (p : NN.Pr) (hp : p.ok) (a : Option Addr) (n c : Nat) (room : Int) (w : World) (KA : HK_ w 8 #[] (.bool true)) (KG : HK_ w 9 #[.agg (NN.prA p), .slice a n c] (.bool true)) :
  Ca_ 3 #[.agg (NN.prA p), .int .i64 room, .slice a n c] w (.bool true) := by
 have hz := NN.qaw_ hp
 go_enter Tryz.func3, Tryz.ntmps3
 go_upto_region 1 with fail
 generalize hw0 : World.alloc _ _ = v0
 have hB : Below w.heap.size w v0 := bl_ hw0
 have hP : NN.PrAt v0 w.heap.size p := by rw [← hw0]; exact NN.Has.new _ _
 clear hw0
 obtain ⟨bP, hbP⟩ : ∃ x, x = w.heap.size := ⟨_, rfl⟩
 rw [← hbP] at hP ⊢
 have HBP : Hid (bP = w.heap.size) := h_ hbP
 clear hbP
 go_wp2_with (first | fail)
 refine (KA.out _ hB).mono ?_
 rintro e v1 ⟨rfl, hb⟩
 replace hP := hP.on hb
 replace hB := tb_ hB hb
 clear hb
 go_wp2_with (with_reducible first | refine NN.ql_ rfl _ rfl _ rfl hP hz ?_ | refine NN.qj_ (by with_unfolding_all rfl) _ rfl _ rfl hP hz ?_)
 refine (KG.out _ hB).mono ?_
 rintro e v2 ⟨rfl, hb⟩
 replace hP := hP.on hb
 replace hB := tb_ hB hb
 clear hb
 go_wp2_with fail
 go_ret
 exact ⟨rfl, hB⟩
theorem qws_ (p : NN.Pr) (hp : p.ok) (r : Ru) (a : Option Addr) (n c : Nat) (ls : List Cm) (room : Int) (w : World) (HA : Hid (∀ w', Below w.heap.size w w' → ComesAt w' a ls)) (HN : Hid (n = ls.length)) (hn40 : n ≤ 40) (HT : Hid (∀ w', Below w.heap.size w w' → Tab w')) (KA : HK_ w 8 #[] (.bool true)) (KG : HK_ w 9 #[.agg (NN.prA p), .slice a n c] (.bool false)) (g : Bool) (KN : Hid (∀ w', Below w.heap.size w w' → Calls Tryz.prog 10 #[.agg (NN.prA p), .int .i64 room] w' fun e w'' => ∃ pv ev, e = .returned (.tuple #[pv, .int .i64 ev]) ∧ (g = false → pv = .pointer none ∧ ev = 1) ∧ (g = true → ∃ b F, pv = .pointer (some ⟨b, 0, none⟩) ∧ ArS w'' F b r [entZ] ∧ ∀ i, F i → w'.heap.size ≤ i) ∧ Below w'.heap.size w' w'')) (KR : HK_ w 17 #[.agg (NN.prA p)] (.bool g)) (KF : Hid (g = true → ∀ w', Below w.heap.size w w' → Calls Tryz.prog 18 #[.agg (NN.prA p), .int .i64 room] w' fun e w'' => ∃ b, e = .returned (.pointer (some ⟨b, 0, none⟩)) ∧ RfS w'' w.heap.size (fun i => w'.heap.size ≤ i ∧ i < w''.heap.size) b r [entZ] ∧ Below w'.heap.size w' w'')) (HG : Hid (g = true → r.gs.length ≤ 1000 ∧ r.cs.length ≤ 1000 ∧ 2 ≤ r.p.ivl)) (HNW : Hid (∀ x ∈ ls, -9223372036854775808 ≤ x.now ∧ x.now ≤ 9223372036854775807)) :
  Ca_ 3 #[.agg (NN.prA p), .int .i64 room, .slice a n c] w (.bool true) := by
 have hz := NN.qaw_ hp
 go_enter Tryz.func3, Tryz.ntmps3
 go_upto_region 1 with fail
 generalize hw0 : World.alloc _ _ = v0
 have hB : Below w.heap.size w v0 := bl_ hw0
 have hP : NN.PrAt v0 w.heap.size p := by rw [← hw0]; exact NN.Has.new _ _
 clear hw0
 obtain ⟨bP, hbP⟩ : ∃ x, x = w.heap.size := ⟨_, rfl⟩
 rw [← hbP] at hP ⊢
 have HBP : Hid (bP = w.heap.size) := h_ hbP
 clear hbP
 go_wp2_with (first | fail)
 refine (KA.out _ hB).mono ?_
 rintro e v1 ⟨rfl, hb⟩
 replace hP := hP.on hb
 replace hB := tb_ hB hb
 clear hb
 go_wp2_with (with_reducible first | refine NN.ql_ rfl _ rfl _ rfl hP hz ?_ | refine NN.qj_ (by with_unfolding_all rfl) _ rfl _ rfl hP hz ?_)
 refine (KG.out _ hB).mono ?_
 rintro e v2 ⟨rfl, hb⟩
 replace hP := hP.on hb
 replace hB := tb_ hB hb
 clear hb
 go_wp2_with (first | fail | (with_reducible refine NN.ql_ rfl _ rfl _ rfl hP hz ?_))
 refine (KN.out _ hB).mono ?_
 rintro e v3 ⟨pv, ev, rfl, hN0, hN1, hb⟩
 have HN0 := h_ hN0
 have HN1 := h_ hN1
 have HBv := h_ hB
 replace hP := hP.on hb
 replace hB := tb_ hB hb
 clear hb hN0 hN1
 have hB5 := Below.refl v3.heap.size v3
 have HB3 := h_ hB
 clear hB
 have KAN := h_ fun w' => add_nil hdZ hdZ_ok 1 w'
 go_wp2_with (first | fail)
 refine (KAN.out _).mono ?_
 rintro e v4 ⟨rfl, hb⟩
 replace hP := hP.on hb
 replace hB5 := tb_ hB5 hb
 clear hb
 go_wp2_with (first | fail)
 refine (at_nil 0 _).mono ?_
 rintro e v5 ⟨rfl, hb⟩
 replace hP := hP.on hb
 replace hB5 := tb_ hB5 hb
 clear hb
 have ze := qbh_ enN_ok
 have z0 := qbh_ enZ_ok
 have hnew := qfa_ v5
 have hb3 := qlo_ v5 44 Tryz.zeroCells44 (enA enN)
 go_upto_region 9 with (with_reducible refine qeq_ rfl _ _ rfl _ _ enN rfl rfl rfl ze hnew z0 ?_)
 generalize World.setRow _ _ _ = v6 at *
 replace hP := hP.on hb3
 replace hB5 := tb_ hB5 hb3
 clear hb3 hnew
 go_wp2_with (first | fail)
 refine (len_nil _).mono ?_
 rintro e v7 ⟨rfl, hb⟩
 replace hP := hP.on hb
 replace hB5 := tb_ hB5 hb
 clear hb
 go_wp2_with (first | fail)
 refine (qacb_ _).mono ?_
 rintro e v8 ⟨rfl, hb⟩
 replace hP := hP.on hb
 replace hB5 := tb_ hB5 hb
 clear hb
 go_wp2_with (first | fail)
 refine (qacc_ z32 _).mono ?_
 rintro e v9 ⟨rfl, hb⟩
 replace hP := hP.on hb
 replace hB5 := tb_ hB5 hb
 clear hb
 go_wp2_with (first | fail)
 refine (qoq_ 0 0 _).mono ?_
 rintro e v10 ⟨rfl, hb⟩
 replace hP := hP.on hb
 replace hB5 := tb_ hB5 hb
 clear hb
 go_wp2_with (first | fail | (with_reducible refine NN.ql_ rfl _ rfl _ rfl hP hz ?_))
 refine (KR.out _ (tb_ HB3.out hB5)).mono ?_
 rintro e v11 ⟨rfl, hb⟩
 replace hP := hP.on hb
 replace hB5 := tb_ hB5 hb
 clear hb
 cases g
 ·obtain ⟨rfl, rfl⟩ := HN0.out rfl
  have hB := tb_ HB3.out hB5
  go_wp2_with fail
  go_ret
  exact ⟨rfl, hB⟩
 obtain ⟨ba, F, rfl, hS, hF⟩ := HN1.out rfl
 have HGG := h_ (HG.out rfl)
 replace hS := hS.below hB5
 have hB := tb_ HB3.out hB5
 have HF0 : Hid (∀ i, F i → w.heap.size ≤ i) := h_ fun i hi => Nat.le_trans HBv.out.size (hF i hi)
 clear hB5 HN0 HN1 hF HBv HB3
 have HFl := h_ hS.1
 go_wp2_with (first | fail | (with_reducible refine NN.ql_ rfl _ rfl _ rfl hP hz ?_))
 refine (KF.out (by simp) _ hB).mono ?_
 rintro e v12 ⟨bm, rfl, hR, hb⟩
 replace hS := hS.below hb
 replace hB := tb_ hB hb
 have HD : Hid (∀ i, F i → ¬ (v11.heap.size ≤ i ∧ i < v12.heap.size)) := h_ fun i hi hh => by have := HFl.out i hi; omega
 clear hb hP
 generalize hFm : (fun i => v11.heap.size ≤ i ∧ i < v12.heap.size) = Fm at *
 have HD0 : Hid (∀ i, F i → ¬ Fm i) := h_ fun i hi => by rw [← hFm]; exact HD.out i hi
 clear hFm HD HFl
 go_wp2_with fail
 go_loopw [86] (fun i wr => ∃ k : Nat, k ≤ n ∧ i = .int .i64 (k : Int) ∧ ∃ Fa Fm M, ArS wr Fa ba r M ∧ RfS wr w.heap.size Fm bm r M ∧ Hid (Ok r M ∧ M.length ≤ k + 1 ∧ (∀ i, Fa i → w.heap.size ≤ i) ∧ ∀ i, Fa i → ¬ Fm i) ∧ Below w.heap.size w wr) (fun i _ => n - (intOf i).toNat)
 case atStart => exact ⟨0, by omega, rfl, F, Fm, [entZ], hS, hR, h_ ⟨Ok.one r, Nat.le_refl _, HF0.out, HD0.out⟩, hB⟩
 case round =>
  clear hS hR hB HF0 HD0 F Fm
  obtain ⟨k, hk, rfl, Fa, Fm, M, hS, hR, HM, hB⟩ := hrel
  by_cases hlt : k < n
  ·obtain ⟨ab, ao, hae, habl, hc⟩ := (HA.out _ hB) (by rw [← HN.out]; omega)
   subst hae
   have hk2 : k < ls.length := by rw [← HN.out]; exact hlt
   obtain ⟨q0, q1⟩ := hc k hk2
   clear hc
   have HNy := HNW.out _ (List.getElem_mem hk2)
   generalize ls[k] = y at *
   clear hk2
   have z1 := qgr_ q0
   have z2 := qij_ q0
   have z0 := qij_ (c := cmZ) hdZ_ok
   have zy := qi_ q0
   have hb2 : Below wr.heap.size wr ((wr.alloc (.cells Tryz.zeroCells54 54)).setRow wr.heap.size (cmA y)) := below_setRow ((Below.refl _ _).alloc (Nat.le_refl _) _) (Nat.le_refl _) _
   have hY := qyc_ wr y
   have hnew := qsq_ wr
   have hB2 := tb_ hB hb2
   have hS2 := hS.below hb2
   have hR2 := hR.below hb2
   have hT2 := HT.out _ hB2
   have cn := hY.now q0
   have rh := hY.head
   have hnY : ¬ Fa wr.heap.size := fun hf => by have := hS.1 _ hf; omega
   have KAdd := h_ (add_at hS2 HM.out.1 (by have := HM.out.2.1; omega) HGG.out.1 HGG.out.2.1 hT2 y.h q0 y.now)
   clear hS hR hS2 hB hT2
   go_wp2_with (with_reducible first | refine qes_ rfl _ rfl ab (ao + k * 69) rfl y q1 z1 ?_ | refine qln_ rfl _ _ rfl _ _ y rfl rfl rfl z2 hnew z0 ?_ | refine qad_ rfl _ rfl _ 0 rfl y.h rh zy ?_)
   refine KAdd.out.mono ?_
   rintro e v6 ⟨rfl, hS6, hK6⟩
   generalize World.setRow _ _ _ = v5 at *
   obtain ⟨bY, hbY⟩ : ∃ x, x = wr.heap.size := ⟨_, rfl⟩
   rw [← hbY] at hY hnY ⊢
   clear hbY
   have hY6 : CmAt v6 bY y := hK6.has hY hnY
   have hR6 := hR2.on hK6 (fun i hi hf => HM.out.2.2.2 i hf hi) (fun i hi => HM.out.2.2.1 i hi)
   have hB6 := hB2.trans (hK6.below HM.out.2.2.1 hB2.size)
   have cn6 := hY6.now q0
   have rh6 := hY6.head
   have KAdd2 := h_ (radd_at hR6 HM.out.1 (by have := HM.out.2.1; omega) HGG.out.1 HGG.out.2.1 HGG.out.2.2 y.h q0 y.now HNy.1 HNy.2)
   have HDj : Hid (∀ i, Nxt Fa v5 v6 i → ¬ Fm i) := h_ fun i hi hf => hi.elim (fun h => HM.out.2.2.2 i h hf) (fun h => by have := (hR2.2.1 i hf).2; omega)
   have HFa6 : Hid (∀ i, Nxt Fa v5 v6 i → w.heap.size ≤ i) := h_ fun i hi => hi.elim (HM.out.2.2.1 i) (fun h => Nat.le_trans hB2.size h.1)
   have hOk := HM.out.1.add q0 y.now
   have hlen := add_len r M y.h y.now
   have HL2 : Hid (M.length ≤ k + 1) := h_ HM.out.2.1
   have HFm : Hid (∀ i, Fm i → w.heap.size ≤ i) := h_ fun i hi => (hR2.2.1 i hi).1
   clear hK6 hB2 KAdd hb2 HM hR2 hY hnY cn rh
   obtain ⟨⟨x1, x2, x3⟩, hres⟩ : ∃ res, res = (Ar.add r M y.h y.now).1 := ⟨_, rfl⟩
   rw [← hres] at KAdd2 ⊢
   go_wp2_with (first | fail | (with_reducible refine qad_ rfl _ rfl _ 0 rfl y.h rh6 zy ?_))
   refine KAdd2.out.mono ?_
   rintro e v7 ⟨rfl, hR7, hK7⟩
   have hS7 := hS6.on hK7 (fun i hi hf => HDj.out i hi hf)
   have hB7 := hB6.trans (hK7.below HFm.out hB6.size)
   have hlx := hS6.1
   have HM7 : Hid (Ok r (Ar.add r M y.h y.now).2 ∧ (Ar.add r M y.h y.now).2.length ≤ k + 1 + 1 ∧ (∀ i, Nxt Fa v5 v6 i → w.heap.size ≤ i) ∧ ∀ i, Nxt Fa v5 v6 i → ¬ Nxt Fm v6 v7 i) := h_ ⟨hOk, by have := HL2.out; omega, HFa6.out, fun i hi hf => hf.elim (HDj.out i hi) (fun h => by have := hlx i hi; omega)⟩
   clear hK7 hB6 KAdd2 hS6 hR6 hOk hlen hlx HDj HFa6 hres cn6 rh6 hY6
   generalize (Ar.add r M y.h y.now).2 = M' at *
   generalize Nxt Fa v5 v6 = Fa' at *
   generalize Nxt Fm v6 v7 = Fm' at *
   have KS := h_ (same_at hS7 hR7 HM7.out.1 (by have := HM7.out.2.1; omega))
   have t1 : (x1 != x1) = false := by simp
   have t2 : (x2 != x2) = false := by simp
   have t3 : (x3 != x3) = false := by simp
   go_wp2_with fail
   refine KS.out.mono ?_
   rintro e v8 ⟨rfl, hb⟩
   replace hS7 := hS7.below hb
   replace hR7 := hR7.below hb
   replace hB7 := tb_ hB7 hb
   clear hb KS
   go_wp2_with fail
   go_roundw
   case rel => exact ⟨k + 1, by omega, by go_num, Fa', Fm', M', hS7, hR7, HM7, hB7⟩
   case measure => simp [intOf]; omega
  ·obtain rfl : k = n := by omega
   have hml := HM.out.2.1
   have KA1 := h_ (len_at hS)
   have KA2 := h_ fun (w' : World) (hb : Below wr.heap.size wr w') => at_not (hS.below hb) ((M.length : Nat) : Int) (by omega)
   have KF1 := h_ fun (w' : World) (hb : Below wr.heap.size wr w') => qgn_ (hS.below hb) id1 qyh_
   have KF2 := h_ fun (w' : World) (hb : Below wr.heap.size wr w') => qgs_ (hR.below hb) HM.out.1.pos (by have := HM.out.2.1; omega) id1 qyh_
   have ze := qbh_ enN_ok
   have z0 := qbh_ enZ_ok
   generalize (M.length : Nat) = m at *
   generalize plc (Ar.fnd r.g M id1) = z at *
   clear hS hR HM hml
   go_wp2_with fail
   refine KA1.out.mono ?_
   rintro x v8 ⟨rfl, hb⟩
   replace hB := tb_ hB hb
   go_wp2_with fail
   refine (KA2.out _ hb).mono ?_
   rintro x v9 ⟨rfl, hb9⟩
   replace hb := tb_ hb hb9
   replace hB := tb_ hB hb9
   have hnew := qfa_ v9
   have hE := qyd_ v9 enN
   have hb3 := qlo_ v9 44 Tryz.zeroCells44 (enA enN)
   clear hb9 KA1 KA2
   go_upto_region 23 with (with_reducible refine qeq_ rfl _ _ rfl _ _ enN rfl rfl rfl ze hnew z0 ?_)
   generalize World.setRow _ _ _ = v10 at *
   replace hb := tb_ hb hb3
   replace hB := tb_ hB hb3
   generalize v9.heap.size = bE at *
   clear hb3 hnew
   have c0 := EnAt.up hE enN_ok (z := -1) (h_ rfl)
   have t1 : (z == z) = true := by simp
   go_wp2_with fail
   refine (KF1.out _ hb).mono ?_
   rintro x v11 ⟨rfl, hb9⟩
   replace hb := tb_ hb hb9
   replace hB := tb_ hB hb9
   clear hb9
   go_wp2_with fail
   refine (KF2.out _ hb).mono ?_
   rintro x v12 ⟨rfl, hb9⟩
   replace hB := tb_ hB hb9
   clear hb9
   go_wp2_with fail
   go_ret
   exact ⟨rfl, hB⟩
theorem qwt_ (p : NN.Pr) (hp : p.ok) (h1 : p.one) (t : Tl) (tt : p.tl = t.C) (ht : t.ok) (gs : List Gt) (cs : List Ck) (hgn : t.gn = gs.length) (hcn : t.cn = cs.length) (a : Option Addr) (ls : List Cm) (n c : Nat) (hn : n = ls.length) (hl : n ≤ 4611686018427387904) (hnow : ∀ x ∈ ls, -9223372036854775808 ≤ x.now ∧ x.now ≤ 9223372036854775807) (room : Int) (w : World) (hT : Tab w) (hA : ComesAt w a ls) (hG : GatesAt w t.ga gs) (hC : ChecksAt w t.ca cs) :
  Ca_ 3 #[.agg (NN.prA p), .int .i64 room, .slice a n c] w (.bool true) := by
 have KA : HK_ w 8 #[] (.bool true) := h_ fun w' hb => alive12 w' (hT.below hb)
 have KG : ∀ g, grt t ls = g → HK_ w 9 #[.agg (NN.prA p), .slice a n c] (.bool g) := fun g hg => h_ fun w' hb => grt_at p t tt ls n a c hn hl g hg w' (hA.below hb)
 cases hg : grt t ls
 ·have KG1 := KG false hg
  unfold grt at hg
  simp only [Bool.or_eq_false_iff, decide_eq_false_iff_not] at hg
  obtain ⟨⟨⟨hg0, hg1⟩, hg2⟩, hg3⟩ := hg
  obtain ⟨g, hr⟩ : ∃ g, ruleP p t.g gs cs = g := ⟨_, rfl⟩
  refine qws_ p hp ⟨p, t.g, gs, cs, clampR room⟩ a n c ls room w (h_ fun w' hb => hA.below hb) (h_ hn) (by omega) (h_ fun w' hb => hT.below hb) KA KG1 g (h_ fun w' hb => ?_) (h_ fun w' hb => ?_) (h_ fun _ w' hb => qacr_ p hp h1 t tt ht gs cs hgn hcn room w w' hb hG hC) (h_ fun e => ?_) (h_ hnow)
  ·cases g
   ·refine (new_no p hp t tt ht gs cs hgn hcn (by omega) (by omega) room hr w' (hG.below hb) (hC.below hb)).mono ?_
    rintro e w2 ⟨rfl, h⟩
    exact ⟨_, _, rfl, fun _ => ⟨rfl, rfl⟩, fun h => (by cases h), h⟩
   ·refine (new_at p hp h1 t tt ht gs cs hgn hcn (by omega) (by omega) room hr w' (hT.below hb) (hG.below hb) (hC.below hb)).mono ?_
    rintro e w2 ⟨b, F, rfl, h2, h3, h⟩
    exact ⟨_, _, rfl, fun h => (by cases h), fun _ => ⟨b, F, rfl, h2, h3⟩, h⟩
  ·rw [← hr]
   exact qsp_ p hp t tt ht gs cs hgn hcn (by omega) (by omega) w' (hG.below hb) (hC.below hb)
  ·subst e
   refine ⟨by simp only; omega, by simp only; omega, ?_⟩
   unfold ruleP NN.Pr.good at hr
   simp only [Bool.and_eq_true, decide_eq_true_eq] at hr
   exact hr.1.1.1.1.1.1.1.1.2
 ·exact qta_ p hp a n c room w KA (KG true hg)
end Go.Proofs.YtkclahiiijfllaaGreatDoor.An
namespace Go.Proofs.YtkclahiiijfllaaGreatDoor.An
open Go.RowKit Mem Sc
open Ar (Ent Ru entZ Ok)
end Go.Proofs.YtkclahiiijfllaaGreatDoor.An
namespace Go.Proofs.YtkclahiiijfllaaGreatDoor.An
open Go.RowKit Mem Sc
open Ar (Ent Ru entZ Ok)
end Go.Proofs.YtkclahiiijfllaaGreatDoor.An
namespace Go.Proofs.YtkclahiiijfllaaGreatDoor.An
open Go.RowKit Mem Sc NN.Rg2
open Ar (Ent Ru entZ Ok)
section
variable {ops : Array Oper} {rest : List Oper} {o : Oper} {a : Act} {w : World} {Q : Exit → Act → World → Prop}
end
section
variable {C : World → Prop} {a : Act} {o : Oper} {K : Act → Prop}
end
end Go.Proofs.YtkclahiiijfllaaGreatDoor.An
namespace Go.Proofs.YtkclahiiijfllaaGreatDoor.An
open Go.RowKit Mem Sc NN.Rg2
open Ar (Ent Ru entZ Ok)
end Go.Proofs.YtkclahiiijfllaaGreatDoor.An
