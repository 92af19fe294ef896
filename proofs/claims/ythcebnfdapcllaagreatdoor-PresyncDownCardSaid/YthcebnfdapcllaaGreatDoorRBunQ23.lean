import Derived.Test.YthcebnfdapcllaaGreatDoorRBunQ12
import Derived.Test.YthcebnfdapcllaaGreatDoorRBunQ11
import Derived.Test.YthcebnfdapcllaaGreatDoorRBunQ22
namespace Go.Proofs.YthcebnfdapcllaaGreatDoor
open Go.RowKit Mem Sc Sha
set_option maxRecDepth 100000 in
set_option maxHeartbeats 1000000 in
theorem bytes_yes (h : Hd) (ho : h.ok) (hp : h.P) (w : World) :
    Calls Tryz.prog 49 #[.agg (hdA h)] w fun e w' => e = .returned (.tuple #[.string (txt h.enc), .int .i64 0]) ∧ Below w.heap.size w w' := by
  have CG := good_at h ho
  rw [decide_eq_true hp] at CG
  have KG := Lib.hid CG
  have KW := Lib.hid (fun b v l w hP hsz => write_at b v l h ho w hP hsz)
  rw [Hd.wr_yes hp] at KW
  clear CG hp
  have hH := hd_new w h
  have hB : Below w.heap.size w (w.alloc (.cells (hdA h) 30)) := (Below.refl _ _).alloc (Nat.le_refl _) _
  have hz := hdA_size ho
  go_enter Tryz.func49, Tryz.ntmps49
  go_upto_region 1 with fail
  generalize World.alloc _ _ = w1 at *
  go_wp2_with (with_reducible refine hd_load rfl _ rfl _ rfl hH hz ?_)
  refine (KG.out _).mono ?_
  rintro r w2 ⟨rfl, hb2⟩
  replace hB := hB.trans (hb2.mono hB.size)
  replace hH := hH.on hb2
  clear hb2 KG
  go_upto_region 4 with fail
  have hN := pen_new w2
  have hpk : w.heap.size ≤ w2.heap.size := hB.size
  have hb3 : Below w2.heap.size w2 (w2.alloc (.cells #[.slice none 0 0] 120)) := (Below.refl _ _).alloc (Nat.le_refl _) _
  replace hB := hB.trans (hb3.mono hB.size)
  replace hH := hH.on hb3
  generalize World.alloc _ _ = w3 at *
  generalize w2.heap.size = p at *
  clear hb3
  go_wp2_with (with_reducible refine hd_load rfl _ rfl _ rfl hH hz ?_)
  refine (KW.out _ _ _ _ hN (by simp)).mono ?_
  rintro r w4 ⟨v4, rfl, hP4, hS4⟩
  have hB4 := pen_below hB hpk hN hS4
  rw [List.nil_append] at hP4
  clear KW hN hS4 hB hH
  go_wp2_with fail
  refine (text_txt _ _ _ _ hP4).mono ?_
  rintro r w5 ⟨rfl, rfl⟩
  go_wp2_with fail
  go_ret2
  exact ⟨rfl, hB4⟩
set_option maxRecDepth 100000 in
set_option maxHeartbeats 1000000 in
theorem bytes_no (h : Hd) (ho : h.ok) (hp : ¬ h.P) (w : World) :
    Calls Tryz.prog 49 #[.agg (hdA h)] w fun e w' => e = .returned (.tuple #[.string E0, .int .i64 1]) ∧ Below w.heap.size w w' := by
  have CG := good_at h ho
  rw [decide_eq_false hp] at CG
  have KG := Lib.hid CG
  clear CG hp
  have hH := hd_new w h
  have hB : Below w.heap.size w (w.alloc (.cells (hdA h) 30)) := (Below.refl _ _).alloc (Nat.le_refl _) _
  have hz := hdA_size ho
  go_enter Tryz.func49, Tryz.ntmps49
  go_upto_region 1 with fail
  generalize World.alloc _ _ = w1 at *
  go_wp2_with (with_reducible refine hd_load rfl _ rfl _ rfl hH hz ?_)
  refine (KG.out _).mono ?_
  rintro r w2 ⟨rfl, hb2⟩
  replace hB := hB.trans (hb2.mono hB.size)
  go_wp2_with fail
  go_ret2
  exact ⟨rfl, hB⟩
theorem sha_length (l : List UInt8) : (sha l).length = 32 := nameOf_length _
theorem id_length (h : Hd) : h.id.length = 32 := by
  unfold Hd.id
  split
  · exact sha_length _
  · rfl
set_option maxRecDepth 100000 in
set_option maxHeartbeats 1000000 in
theorem id_yes (h : Hd) (ho : h.ok) (hp : h.P) (w : World) (hT : Tab w) :
    Calls Tryz.prog 34 #[.agg (hdA h)] w fun e w' => e = .returned (.agg (bytesV h.id)) ∧ Below w.heap.size w w' := by
  have KB := Lib.hid (bytes_yes h ho hp)
  have c1 : ∀ a w, Tab w → PartsW w a [txt h.enc] → Calls Tryz.prog 50 #[.slice a 1 1] w fun e w' => e = .returned (.agg (bytesV h.id)) ∧ Below w.heap.size w w' := fun a w hT hP => by
    have := double a [txt h.enc] 1 1 rfl w hT (by rw [flat_one, txt_list, Hd.enc_length ho]; omega) (by omega) hP
    rwa [flat_one, txt_list, ← Hd.id_yes hp] at this
  have KD := Lib.hid c1
  have hsz := hv_size (id_length h)
  have hone := bytesV_one h.id
  generalize txt h.enc = s at *
  generalize bytesV h.id = cs at *
  have HSZ := Lib.hid hsz
  have hz := hdA_size ho
  clear c1 hp hsz
  go_enter Tryz.func34, Tryz.ntmps34
  go_upto_region 1 with fail
  generalize hw1 : World.alloc _ _ = w1
  have hH : HdAt w1 w.heap.size h := by rw [← hw1]; exact (hd_new w h).on ((Below.refl _ _).alloc (Nat.le_refl _) _)
  have hR : Has w1 (w.heap.size + 1) h0 28 := by rw [← hw1]; exact Has.new1 _ h0 _
  have hB : Below w.heap.size w w1 := by rw [← hw1]; exact ((Below.refl _ _).alloc (Nat.le_refl _) _).alloc (by simp) _
  clear hw1
  have hT1 := hT.below hB
  go_wp2_with (with_reducible refine hd_load rfl _ rfl _ rfl hH hz ?_)
  refine (KB.out _).mono ?_
  rintro r w2 ⟨rfl, hb2⟩
  replace hR := below_has hb2 hR hR.lt
  replace hT1 := hT1.below hb2
  replace hB := hB.trans (hb2.mono hB.size)
  clear hb2 KB hH hT
  go_wp2_with fail
  have hb3 : Below w2.heap.size w2 (w2.alloc (.cells #[.string s] 9)) := (Below.refl _ _).alloc (Nat.le_refl _) _
  refine (KD.out _ _ (hT1.below hb3) (PartsW.one (by simp))).mono ?_
  rintro r w4 ⟨rfl, hb4⟩
  replace hR := below_has hb4 (below_has hb3 hR hR.lt) (Has.lt (below_has hb3 hR hR.lt))
  replace hB := (hB.trans (hb3.mono hB.size)).trans (hb4.mono (Nat.le_trans hB.size hb3.size))
  have h0s : h0.size = 32 := rfl
  have HZ := Lib.hid h0s
  clear h0s hT1 KD hb3 hb4
  go_wp2_with (with_reducible refine hl_store rfl _ _ rfl _ _ cs rfl rfl rfl HSZ.out hone h0 hR HZ.out ?_)
  exact bodyPost_ret (v := .agg cs) (hl_results Tryz.results34 _ _ _ rfl (hR.row _) HSZ.out) rfl ⟨rfl, below_setRow hB (by omega) _⟩
set_option maxRecDepth 100000 in
set_option maxHeartbeats 1000000 in
theorem id_no (h : Hd) (ho : h.ok) (hp : ¬ h.P) (w : World) :
    Calls Tryz.prog 34 #[.agg (hdA h)] w fun e w' => e = .returned (.agg (bytesV h.id)) ∧ Below w.heap.size w w' := by
  have KB := Lib.hid (bytes_no h ho hp)
  have hcs : bytesV h.id = h0 := by rw [Hd.id_no hp]; rfl
  rw [hcs]
  have hz := hdA_size ho
  clear hp hcs
  go_enter Tryz.func34, Tryz.ntmps34
  go_upto_region 1 with fail
  generalize hw1 : World.alloc _ _ = w1
  have hH : HdAt w1 w.heap.size h := by rw [← hw1]; exact (hd_new w h).on ((Below.refl _ _).alloc (Nat.le_refl _) _)
  have hR : Has w1 (w.heap.size + 1) h0 28 := by rw [← hw1]; exact Has.new1 _ h0 _
  have hB : Below w.heap.size w w1 := by rw [← hw1]; exact ((Below.refl _ _).alloc (Nat.le_refl _) _).alloc (by simp) _
  clear hw1
  go_wp2_with (with_reducible refine hd_load rfl _ rfl _ rfl hH hz ?_)
  refine (KB.out _).mono ?_
  rintro r w2 ⟨rfl, hb2⟩
  replace hR := below_has hb2 hR hR.lt
  replace hB := hB.trans (hb2.mono hB.size)
  have h0s : h0.size = 32 := rfl
  have HZ := Lib.hid h0s
  have hone : h0.all (·.oneCell') = true := bytesV_one _
  clear h0s hb2 KB hH
  go_wp2_with (with_reducible refine hl_store rfl _ _ rfl _ _ h0 rfl rfl rfl HZ.out hone h0 hR HZ.out ?_)
  exact bodyPost_ret (v := .agg h0) (hl_results Tryz.results34 _ _ _ rfl (hR.row _) HZ.out) rfl ⟨rfl, below_setRow hB (by omega) _⟩
theorem id_at (h : Hd) (ho : h.ok) (w : World) (hT : Tab w) :
    Calls Tryz.prog 34 #[.agg (hdA h)] w fun e w' => e = .returned (.agg (bytesV h.id)) ∧ Below w.heap.size w w' := by
  by_cases hp : h.P
  · exact id_yes h ho hp w hT
  · exact id_no h ho hp w
end Go.Proofs.YthcebnfdapcllaaGreatDoor
namespace Go.Proofs.YthcebnfdapcllaaGreatDoor
open Go.RowKit Mem Sc Sha
end Go.Proofs.YthcebnfdapcllaaGreatDoor
namespace Go.Proofs.YthcebnfdapcllaaGreatDoor
open Go.RowKit Mem Sc
theorem wp_hneq {o : Oper} {a : Act} {w : World} {K : Act → World → Prop} {Q : Exit → Act → World → Prop} (t' : TypeId) (x y : Operand) (ho : o.op = .binOp .neq 28 x y t') (xs ys : Array Value) (v : Value) (hx : a.eval x = .agg xs) (hy : a.eval y = .agg ys)
    (hq : (binOp .neq 28 (.agg xs) (.agg ys)).run Tryz.prog w = .ok v w) (h : K (a.put o.dst v) w) : o.wp Tryz.prog a w K Q := by
  unfold Oper.wp execOp
  simp only [ho, hx, hy, Sem.run_bind, Sem.run_pure, run_eqGuard_agg w .neq 28 x y xs ys hplain, Result.andThen_ok, hq]
  exact h
theorem hneq_g {ops : Array Oper} {rest : List Oper} {o : Oper} {a : Act} {w : World} {Q : Exit → Act → World → Prop} (hw : Region.wanted o (yielded ops a.tmps) = true) (t' : TypeId) (x y : Operand) (ho : o.op = .binOp .neq 28 x y t') (xs ys : Array Value) (v : Value) (hx : a.eval x = .agg xs) (hy : a.eval y = .agg ys)
    (hq : ∀ w, (binOp .neq 28 (.agg xs) (.agg ys)).run Tryz.prog w = .ok v w) (h : wpList Tryz.prog ops Q rest (a.put o.dst v) w) : wpList Tryz.prog ops Q (o :: rest) a w :=
  BigFrame.wpList_want hw fun _ hK => wp_hneq t' x y ho xs ys v hx hy (hq w) (hK _ _ h)
def hd1 : Hd := ⟨1, z32, z32, 0, 0, 0⟩
end Go.Proofs.YthcebnfdapcllaaGreatDoor
