/-
  header: Read, Of.
-/
import Derived.Test.YtmpllagaeoolaaaDoorZHdMem
import Derived.Test.YtmpllagaeoolaaaDoorBunC
namespace Go.Proofs.YtmpllagaeoolaaaDoor
open Go.RowKit Mem Sc
theorem i32_is (n : Nat) (hn : n < 4294967296) : IntKind.i32.wrap (n : Int) = i32 n := by
  rw [IntKind.wrap_i32]; unfold i32; split <;> omega
theorem get4_lt (e : Ey) : (e.get 4).1 < 4294967296 := by
  unfold Ey.get
  have h := val_lt (e.raw (near 4 7)).1.data.toList
  have h2 := raw_size e (near 4 7)
  rw [Lib.size_eq] at h2
  have h3 : 256 ^ (e.raw (near 4 7)).1.data.toList.length ≤ 256 ^ 4 := Nat.pow_le_pow_right (by omega) h2
  simp only
  omega
/-- what stands while a header is read: the result's box, the header's, the eye -/
structure RdS (w wr : World) (E R X : Nat) (h : Hd) (e : Ey) : Prop where
  gr : w.grownBy wr (some E)
  r : HdAt wr R hdZ
  x : HdAt wr X h
  eye : EyeAt wr E e
theorem RdS.step {w wr w' : World} {E R X : Nat} {h : Hd} {e e' : Ey} (hs : RdS w wr E R X h e) (hE : EyeAt w' E e') (hg : wr.grownBy w' (some E)) (h1 : R ≠ E) (h2 : X ≠ E) : RdS w w' E R X h e' :=
  ⟨gb_trans hs.gr hg, hs.r.grown hg (fun h => h1 (Option.some.inj h)), hs.x.grown hg (fun h => h2 (Option.some.inj h)), hE⟩
theorem RdS.put {w wr : World} {E R X : Nat} {h h' : Hd} {e : Ey} (hs : RdS w wr E R X h e) (o : Nat) (u : Value) (hX : HdAt (wr.setCell ⟨X, o, none⟩ u) X h') (h1 : R ≠ X) (h2 : E ≠ X) (h3 : w.heap.size ≤ X) : RdS w (wr.setCell ⟨X, o, none⟩ u) E R X h' e :=
  ⟨gb_setCellNew hs.gr _ h3 _, Has.other hs.r _ _ h1, hX, Has.other hs.eye _ _ h2⟩
theorem setCells_has {w : World} {X o g : Nat} {vs : List Value} {cs : Array Value} {t : TypeId} (h : Has w g cs t) (hn : g ≠ X) : Has (w.setCells X o vs) g cs t := (setCells_other X g hn vs o w).trans h
theorem RdS.putName {w wr : World} {E R X : Nat} {h h' : Hd} {e : Ey} (hs : RdS w wr E R X h e) (o : Nat) (vs : List Value) (hX : HdAt (wr.setCells X o vs) X h') (h1 : R ≠ X) (h2 : E ≠ X) (h3 : w.heap.size ≤ X) : RdS w (wr.setCells X o vs) E R X h' e :=
  ⟨gb_setCells hs.gr _ _ _ h3, setCells_has hs.r h1, hX, setCells_has hs.eye h2⟩
set_option maxRecDepth 100000 in
set_option maxHeartbeats 2000000 in
theorem read_at (E : Nat) (e : Ey) (w : World) (hE : EyeAt w E e) : Calls Tryd.prog 75 #[.pointer (some ⟨E, 0, none⟩)] w fun r w' => ReadPost E w (.agg (hdA e.header.1)) e.header.2 r w' := by
  have hEl := hE.lt
  go_enter Tryd.func75, Tryd.ntmps75
  go_upto_region 2 with fail
  generalize hw1 : World.alloc _ _ = w1
  have hs : RdS w w1 E w.heap.size (w.heap.size + 1) hdZ e := by
    rw [← hw1]
    exact ⟨gb_below (((Below.refl _ _).alloc (Nat.le_refl _) _).alloc (by simp) _) _, (hd_new w hdZ).on ((Below.refl _ _).alloc (Nat.le_refl _) _), hd_new1 w _ hdZ, (Has.alloc hE _).alloc _⟩
  clear hw1 hE
  obtain ⟨R, hR⟩ : ∃ R, R = w.heap.size := ⟨_, rfl⟩
  obtain ⟨XB, hX⟩ : ∃ X, X = w.heap.size + 1 := ⟨_, rfl⟩
  rw [← hX] at hs ⊢
  rw [← hR] at hs ⊢
  have h1 : R ≠ E := by omega
  have h2 : XB ≠ E := by omega
  have h3 : R ≠ XB := by omega
  have h4 : w.heap.size ≤ XB := by omega
  have h5 : w.heap.size ≤ R := by omega
  clear hR hX hEl
  -- the version
  obtain ⟨n1, hn1⟩ : ∃ n, n = (e.get 4).1 := ⟨_, rfl⟩
  obtain ⟨v, hv⟩ : ∃ v, v = i32 n1 := ⟨_, rfl⟩
  have hnl : n1 < 4294967296 := by rw [hn1]; exact get4_lt e
  have w1i : IntKind.i32.wrap (n1 : Int) = v := by rw [hv]; exact i32_is n1 hnl
  have w2i : IntKind.i64.wrap v = v := by
    have : -2147483648 ≤ v ∧ v ≤ 2147483647 := by rw [hv]; unfold i32; split <;> omega
    rw [IntKind.wrap_i64]; omega
  have C := Lib.hid (get_at E e 4 w1 hs.eye)
  rw [← hn1] at C
  have V1 : Hid (v = i32 (e.get 4).1) := Lib.hid (by rw [hv, hn1])
  clear hv hn1 hnl
  go_wp2_with fail
  refine C.out.mono ?_
  rintro r w2 ⟨rfl, hE2, hg2⟩
  replace hs : RdS w w2 E R XB hdZ e.e1 := hs.step hE2 hg2 h1 h2
  have c := hs.x.v
  have f := hs.x.free 0
  have hX := hs.x.setV v
  replace hs := hs.put 0 _ hX h3 (Ne.symm h2) h4
  clear C hE2 hg2 hX
  go_upto_region 3 with fail
  generalize World.setCell _ _ _ = w3 at *
  clear c f w1i w2i
  -- prev
  have ok : (⟨v, z32, z32, 0, 0, 0⟩ : Hd).ok := ⟨rfl, rfl⟩
  have L2 : Hid ((e.e1.name.1).length = 32) := Lib.hid (name32_length _)
  have C := Lib.hid (name_at E e.e1 _ hs.eye)
  have KT := Lib.hid (fun (w' : World) (h : HdAt w' XB ⟨v, z32, z32, 0, 0, 0⟩) => h.there ok 1 32 (by omega))
  generalize hp2 : e.e1.name.1 = p2 at *
  have P2 := Lib.hid hp2
  clear hp2
  go_wp2_with fail
  refine C.out.mono ?_
  rintro r w4 ⟨rfl, hE2, hg2⟩
  replace hs : RdS w w4 E R XB ⟨v, z32, z32, 0, 0, 0⟩ e.e2 := hs.step hE2 hg2 h1 h2
  have hX := hs.x.setPrev ok L2.out
  go_upto_region 4 with (with_reducible refine hl_store_mid rfl _ _ rfl XB 1 p2 rfl rfl L2.out (KT.out _ hs.x) ?_)
  replace hs : RdS w (w4.setCells XB 1 (Lib.byteCells p2)) E R XB ⟨v, p2, z32, 0, 0, 0⟩ e.e2 := hs.putName 1 _ hX h3 (Ne.symm h2) h4
  generalize World.setCells _ _ _ _ = w5 at *
  clear C hE2 hg2 hX KT ok
  -- root
  have ok : (⟨v, p2, z32, 0, 0, 0⟩ : Hd).ok := ⟨L2.out, rfl⟩
  have L3 : Hid ((e.e2.name.1).length = 32) := Lib.hid (name32_length _)
  have C := Lib.hid (name_at E e.e2 _ hs.eye)
  have KT := Lib.hid (fun (w' : World) (h : HdAt w' XB ⟨v, p2, z32, 0, 0, 0⟩) => h.there ok 33 32 (by omega))
  generalize hp3 : e.e2.name.1 = p3 at *
  have P3 := Lib.hid hp3
  clear hp3
  go_wp2_with fail
  refine C.out.mono ?_
  rintro r w6 ⟨rfl, hE2, hg2⟩
  replace hs : RdS w w6 E R XB ⟨v, p2, z32, 0, 0, 0⟩ e.e3 := hs.step hE2 hg2 h1 h2
  have hX := hs.x.setRoot ok L3.out
  go_upto_region 5 with (with_reducible refine hl_store_mid rfl _ _ rfl XB 33 p3 rfl rfl L3.out (KT.out _ hs.x) ?_)
  replace hs : RdS w (w6.setCells XB 33 (Lib.byteCells p3)) E R XB ⟨v, p2, p3, 0, 0, 0⟩ e.e3 := hs.putName 33 _ hX h3 (Ne.symm h2) h4
  generalize World.setCells _ _ _ _ = w7 at *
  clear C hE2 hg2 hX KT ok
  -- time
  have ok : (⟨v, p2, p3, 0, 0, 0⟩ : Hd).ok := ⟨L2.out, L3.out⟩
  have C := Lib.hid (get_at E e.e3 4 _ hs.eye)
  generalize hp4 : (e.e3.get 4).1 = n4 at *
  have P4 := Lib.hid hp4
  clear hp4
  go_wp2_with fail
  refine C.out.mono ?_
  rintro r w8 ⟨rfl, hE2, hg2⟩
  replace hs : RdS w w8 E R XB ⟨v, p2, p3, 0, 0, 0⟩ e.e4 := hs.step hE2 hg2 h1 h2
  have c := hs.x.time ok
  have f := hs.x.free 65
  have hX := hs.x.setTime ok (n4 : Nat)
  replace hs : RdS w (w8.setCell ⟨XB, 65, none⟩ (.int .i64 (n4 : Nat))) E R XB ⟨v, p2, p3, (n4 : Nat), 0, 0⟩ e.e4 := hs.put 65 _ hX h3 (Ne.symm h2) h4
  clear C hE2 hg2 hX ok
  go_upto_region 6 with fail
  generalize World.setCell _ _ _ = w9 at *
  clear c f
  -- bits
  have ok : (⟨v, p2, p3, (n4 : Nat), 0, 0⟩ : Hd).ok := ⟨L2.out, L3.out⟩
  have C := Lib.hid (get_at E e.e4 4 _ hs.eye)
  generalize hp5 : (e.e4.get 4).1 = n5 at *
  have P5 := Lib.hid hp5
  clear hp5
  go_wp2_with fail
  refine C.out.mono ?_
  rintro r w10 ⟨rfl, hE2, hg2⟩
  replace hs : RdS w w10 E R XB ⟨v, p2, p3, (n4 : Nat), 0, 0⟩ e.e5 := hs.step hE2 hg2 h1 h2
  have c := hs.x.bits ok
  have f := hs.x.free 66
  have hX := hs.x.setBits ok (n5 : Nat)
  replace hs : RdS w (w10.setCell ⟨XB, 66, none⟩ (.int .i64 (n5 : Nat))) E R XB ⟨v, p2, p3, (n4 : Nat), (n5 : Nat), 0⟩ e.e5 := hs.put 66 _ hX h3 (Ne.symm h2) h4
  clear C hE2 hg2 hX ok
  go_upto_region 7 with fail
  generalize World.setCell _ _ _ = w11 at *
  clear c f
  -- nonce
  have ok : (⟨v, p2, p3, (n4 : Nat), (n5 : Nat), 0⟩ : Hd).ok := ⟨L2.out, L3.out⟩
  have C := Lib.hid (get_at E e.e5 4 _ hs.eye)
  generalize hp6 : (e.e5.get 4).1 = n6 at *
  have P6 := Lib.hid hp6
  clear hp6
  go_wp2_with fail
  refine C.out.mono ?_
  rintro r w12 ⟨rfl, hE2, hg2⟩
  replace hs : RdS w w12 E R XB ⟨v, p2, p3, (n4 : Nat), (n5 : Nat), 0⟩ e.e6 := hs.step hE2 hg2 h1 h2
  have c := hs.x.nonce ok
  have f := hs.x.free 67
  have hX := hs.x.setNonce ok (n6 : Nat)
  replace hs : RdS w (w12.setCell ⟨XB, 67, none⟩ (.int .i64 (n6 : Nat))) E R XB ⟨v, p2, p3, (n4 : Nat), (n5 : Nat), (n6 : Nat)⟩ e.e6 := hs.put 67 _ hX h3 (Ne.symm h2) h4
  clear C hE2 hg2 hX ok
  go_upto_region 8 with fail
  generalize World.setCell _ _ _ = w13 at *
  clear c f
  -- whether all was there
  have ok : (⟨v, p2, p3, (n4 : Nat), (n5 : Nat), (n6 : Nat)⟩ : Hd).ok := ⟨L2.out, L3.out⟩
  have hh : e.header = (if e.e6.bad = true then hdZ else ⟨v, p2, p3, (n4 : Nat), (n5 : Nat), (n6 : Nat)⟩, e.e6) := by
    unfold Ey.header
    rw [V1.out, ← P2.out, ← P3.out, ← P4.out, ← P5.out, ← P6.out]
  have HH := Lib.hid hh
  have hz := hdA_size ok
  have hz0 := hdA_size hdZ_ok
  have C := Lib.hid (bad_at E e.e6 _ hs.eye)
  clear hh V1 P2 P3 P4 P5 P6 L2 L3 ok
  generalize (⟨v, p2, p3, (n4 : Nat), (n5 : Nat), (n6 : Nat)⟩ : Hd) = h' at *
  generalize e.e6 = e6 at *
  obtain ⟨s6, b6⟩ := e6
  cases b6
  · go_wp2_with fail
    refine C.out.mono ?_
    rintro r w14 ⟨rfl, rfl⟩
    have hr := hs.r
    have hx := hs.x
    go_wp2_with (first
      | (with_reducible refine hd_load rfl _ rfl XB rfl hx hz ?_)
      | (with_reducible refine hd_store rfl _ _ rfl R _ h' rfl rfl rfl hz hr hz0 ?_))
    refine bodyPost_ret (v := .agg (hdA h')) (hd_results Tryd.results75 _ R rfl (Has.row hr _) hz) rfl ⟨by rw [HH.out]; rfl, by rw [HH.out]; exact Has.otherRow hs.eye _ _ (Ne.symm h1), gb_setRowNew hs.gr R h5 _⟩
  · go_wp2_with fail
    refine C.out.mono ?_
    rintro r w14 ⟨rfl, rfl⟩
    have hr := hs.r
    have hlit := Lib.hid hdA_lit
    go_wp2_with (with_reducible refine hd_store rfl _ _ rfl R _ hdZ rfl rfl hlit.out.symm hz0 hr hz0 ?_)
    refine bodyPost_ret (v := .agg (hdA hdZ)) (hd_results Tryd.results75 _ R rfl (Has.row hr _) hz0) rfl ⟨by rw [HH.out]; rfl, by rw [HH.out]; exact Has.otherRow hs.eye _ _ (Ne.symm h1), gb_setRowNew hs.gr R h5 _⟩
end Go.Proofs.YtmpllagaeoolaaaDoor
