import Derived.Test.YtmfjmkpgmacmpaaDoorRows
import Derived.Test.YtmfjmkpgmacmpaaDoorDigAlive
import Derived.Deep.RegionWith
import Derived.Test.YtmfjmkpgmacmpaaDoorRegionInv
namespace Go.Proofs.YtmfjmkpgmacmpaaDoor
open Go.RowKit Mem Sha Rgn

theorem bcell {W w1 : World} (hb : Below W.heap.size W w1) : (∀ b o, b < W.heap.size → w1.cell? ⟨b, o, none⟩ = W.cell? ⟨b, o, none⟩) ∧ (∀ b o, b < W.heap.size → w1.frozen? ⟨b, o, none⟩ = W.frozen? ⟨b, o, none⟩) :=
  ⟨fun b o h => hb.cell (p := ⟨b, o, none⟩) h, fun b o h => hb.frozen (p := ⟨b, o, none⟩) h⟩
def twTo (h : List UInt8) (k : Nat) : List UInt8 := h.take k ++ List.replicate (32 - k) 0
theorem twTo_length (h : List UInt8) (hh : h.length = 32) (k : Nat) (hk : k ≤ 32) : (twTo h k).length = 32 := by simp [twTo, hh]; omega
theorem twTo_next (h : List UInt8) (hh : h.length = 32) (k : Nat) (hk : k < 32) : (twTo h k).set k (h[k]'(by omega)) = twTo h (k + 1) := by
  have hl : (h.take k).length = k := by simp [hh]; omega
  unfold twTo
  rw [List.set_append_right _ _ (by omega), hl, Nat.sub_self, show 32 - k = (32 - (k + 1)) + 1 by omega, List.replicate_succ, List.set_cons_zero,
    List.take_succ_eq_append_getElem (by omega), List.append_assoc]
  rfl
/-- the state of the loop: two arrays -/
structure Tw (w wr : World) (A B : Nat) (hs : List UInt8) (k : Nat) : Prop where
  below : Below w.heap.size w wr
  a : Has wr A (bytesV hs) 24
  b : Has wr B (bytesV (twTo hs k)) 5
  tab : Tab wr
theorem Tw.next {w wr : World} {A B : Nat} {hs : List UInt8} {k : Nat} (h : Tw w wr A B hs k) (hh : hs.length = 32) (hk : k < 32) (hB : w.heap.size ≤ B) (hAB : A ≠ B) (hT : Tab w) :
    Tw w (wr.setCell ⟨B, k, none⟩ (.int .u8 ((hs[k]'(by omega)).toNat : Int))) A B hs (k + 1) where
  below := h.below.setCell hB _
  a := h.a.other _ _ hAB
  b := by rw [← twTo_next hs hh k hk, ← bytesV_set]; exact h.b.set _
  tab := hT.below (h.below.setCell hB _)

/-- what stands while the last line is reckoned -/
structure Tz (W wr : World) (A B C : Nat) (hs m : List UInt8) : Prop where
  below : Below W.heap.size W wr
  a : Has wr A (bytesV hs) 24
  b : Has wr B (bytesV hs) 5
  c : HsI wr C m
  tab : Tab wr
theorem Tz.step {W w w' : World} {A B C : Nat} {hs m : List UInt8} (h : Tz W w A B C hs m) (hb : Below w.heap.size w w') : Tz W w' A B C hs m :=
  ⟨h.below.trans (hb.mono h.below.size), below_has hb h.a h.a.lt, below_has hb h.b h.b.lt, h.c.below hb h.c.lt, h.tab.below hb⟩
theorem Tz.drew {W w : World} {A B C : Nat} {hs m : List UInt8} (h : Tz W w A B C hs m) : Tz W w.drew A B C hs m := h.step (Below.refl _ _).drew
theorem Tz.alloc {W w : World} {A B C : Nat} {hs m : List UInt8} (h : Tz W w A B C hs m) (o : Obj) : Tz W (w.alloc o) A B C hs m := h.step ((Below.refl _ _).alloc (Nat.le_refl _) _)
theorem Tz.conv {W w : World} {A B C : Nat} {hs m : List UInt8} (hl : hs.length = 32) (h : Tz W w A B C hs m) : (Go.convert 40 9 (.slice (some ⟨B, 0, none⟩) 32 32)).run Tryd.prog w = .ok (.string ⟨hs.toArray⟩) w := by
  have := conv_bytes w B hs 32 h.b
  rwa [hl] at this
/-- what the last line's slots hold -/
def twTab (s hsb : ByteArray) (V1 V2 : Array Value) (B C : Nat) : Nat → SlotSpec
  | 0 => .val (.string s) | 1 => .sl s | 2 => .val (.agg V1) | 3 => .val (.slice (some ⟨B, 0, none⟩) 32 32) | 4 => .val (.string hsb) | 5 => .sl hsb | 6 => .val (.agg V1) | 7 => .val (.bool true) | 8 => .val (.bool true)
  | 9 => .val (.pointer (some ⟨C, 0, none⟩)) | 10 => .val (.agg V2) | 11 => .val (.agg V2) | 12 => .val (.bool true) | 13 => .val (.bool true) | 14 => .val (.bool true)
  | 15 => .val (.pointer (some ⟨C, 0, none⟩)) | 16 => .val (.agg V2) | 17 => .val (.agg V2) | 18 => .val (.bool true) | 19 => .val (.bool true) | _ => .val (.bool true)
attribute [local go_sem ↓] load_op2
attribute [local go_sem] isHashV hashOfV_at isLoadH_at loadX_at
attribute [local go_sem] Tz.drew Tz.alloc
set_option maxRecDepth 100000 in
set_option maxHeartbeats 2000000 in
theorem twice_walk (s : ByteArray) (w : World) (hT : Tab w) :
    Calls Tryd.prog 7 #[.string s] w fun e w' => e = .returned (.bool true) ∧ Below w.heap.size w w' := by
  by_cases hs : 1024 < s.size
  · go_enter Tryd.func7, Tryd.ntmps7
    go_wp2_with fail
    refine (alive w hT).mono ?_
    rintro e w1 ⟨rfl, hb1⟩
    go_wp2_with fail
    go_ret
    exact ⟨rfl, hb1⟩
  · go_enter Tryd.func7, Tryd.ntmps7
    go_wp2_with fail
    refine (alive w hT).mono ?_
    rintro e w1 ⟨rfl, hb1⟩
    have hT1 := hT.below hb1
    go_wp2_with fail
    have hb2 : Below w1.heap.size w1 (w1.alloc (.cells #[.string s] 9)) := (Below.refl _ _).alloc (Nat.le_refl _) _
    have hsz : (flat [s]).length ≤ 1024 := by rw [flat_one, ← Lib.size_eq]; omega
    refine (of (some ⟨w1.heap.size, 0, none⟩) [s] 1 1 rfl _ (hT1.below hb2) (by omega) (by omega) (PartsW.one (by simp))).mono ?_
    rintro e w2 ⟨rfl, hb3⟩
    rw [flat_one] at hsz ⊢
    have hB2 := (hb1.trans (hb2.mono hb1.size)).trans (hb3.mono (Nat.le_trans hb1.size hb2.size))
    obtain ⟨rs, hrs⟩ : ∃ rs, rs = sha s.data.toList := ⟨_, rfl⟩
    have hlen : rs.length = 32 := by rw [hrs]; exact sha_length _
    rw [← hrs]
    have HRS := Lib.hid hrs
    have HL := Lib.hid hlen
    have HO := Lib.hid (bytesV_one rs)
    have hsz2 : some (bytesV rs).size = some 32 := by rw [bytesV_size, hlen]
    have HSZ := Lib.hid hsz2
    clear hrs hlen hsz2 hb2 hb3 hT1 hb1
    go_upto_region 6 with (with_reducible refine wpList_store_row rfl 24 _ _ rfl _ (bytesV rs) rfl rfl 24 _ (heap_alloc_new w2 _) (infoHash.trans HSZ.out.symm) (by simp [Option.some.inj HSZ.out]) HO.out ?_)
    generalize hw3 : World.setRow _ _ _ = w3
    have hin : Has w3 w2.heap.size (bytesV rs) 24 := by rw [← hw3]; exact (Has.new _ _).row _
    have hB3 : Below w.heap.size w w3 := by rw [← hw3]; exact below_setRow (hB2.alloc hB2.size _) hB2.size _
    have hge : w.heap.size ≤ w2.heap.size := hB2.size
    clear hw3 hB2
    generalize w2.heap.size = A at *
    have hmk : ∀ w, (Instr.makeSlice 40 (.int .i64 32) (.int .i64 32)).run Tryd.prog w = .ok (.slice (some ⟨w.heap.size, 0, none⟩) 32 32) (w.alloc (.cells hz32 5)) := fun _ => by kernel_rfl
    go_wp2_with fail
    clear hmk
    have hAlt := hin.lt
    have hTw : Tw w (w3.alloc (.cells hz32 5)) A w3.heap.size rs 0 := ⟨hB3.alloc hB3.size _, hin.alloc _, by
      have := Has.new (w := w3) hz32 5
      have e : hz32 = bytesV (twTo rs 0) := by simp [twTo]; rfl
      rwa [e] at this ⊢, hT.below (hB3.alloc hB3.size _)⟩
    have hBsz := hB3.size
    generalize hw4 : World.alloc _ _ = w4 at *
    generalize w3.heap.size = B at *
    clear hw4 hin hB3
    go_wp2_with fail
    go_loopw [18] (fun i wr => ∃ k : Nat, k ≤ 32 ∧ i = .int .i64 k ∧ Tw w wr A B rs k) (fun i _ => 32 - (intOf i).toNat)
    case atStart => exact ⟨0, by omega, rfl, hTw⟩
    case round =>
      obtain ⟨k, hk, rfl, ht⟩ := hrel
      by_cases hlt : k < 32
      · have c1 := ht.a.byte k (by rw [HL.out]; exact hlt)
        have c2 := ht.b.byte k (by rw [twTo_length _ HL.out _ hk]; exact hlt)
        have c3 := ht.b.free k
        go_wp2_with fail
        go_roundw
        case rel => exact ⟨k + 1, by omega, by go_num, ht.next HL.out hlt hBsz (by omega) hT⟩
        case measure => simp [intOf]; omega
      · obtain rfl : k = 32 := by omega
        have e : twTo rs 32 = rs := by unfold twTo; rw [List.take_of_length_le (by rw [HL.out]; omega)]; simp
        have hB := ht.b
        rw [e] at hB
        have hA := ht.a
        have hbel := ht.below
        have hT5 := ht.tab
        clear e ht hTw
        go_wp2_with fail
        refine (new wr hT5).mono ?_
        rintro e w6 ⟨rfl, hb6, hI6⟩
        have hP6 : PartsW (w6.alloc (.cells #[.string s] 9)) (some ⟨w6.heap.size, 0, none⟩) [s] := PartsW.one (by simp)
        have hb7 : Below w6.heap.size w6 (w6.alloc (.cells #[.string s] 9)) := (Below.refl _ _).alloc (Nat.le_refl _) _
        have hlt6 : wr.heap.size < w6.heap.size := hI6.lt
        have hI7 := hI6.below hb7 hlt6
        have hb67 := hb6.trans (hb7.mono hb6.size)
        have hT7 := hT5.below hb67
        have hA7 := below_has hb67 hA hA.lt
        have hB7 := below_has hb67 hB hB.lt
        have hbel7 := hbel.trans (hb67.mono hbel.size)
        have hne1 : wr.heap.size ≠ 1 := by have := hT5.lt; omega
        have hne2 : wr.heap.size ≠ 0 := by have := hT5.lt; omega
        have hP7 : Parts (w6.alloc (.cells #[.string s] 9)) (some ⟨w6.heap.size, 0, none⟩) wr.heap.size [s] := fun h0 => by
          obtain ⟨ab, ao, ha, hc⟩ := hP6 h0
          cases ha
          exact ⟨_, _, rfl, by omega, hc⟩
        have HP7 := Lib.hid hP7
        clear hP7 hP6 hb7 hI6 hb6
        have hAlt2 := hA.lt
        have hBlt2 := hB.lt
        go_wp2_with fail
        refine (write wr.heap.size [] (some ⟨w6.heap.size, 0, none⟩) [s] 1 1 rfl _ hT7 hne1 hne2 (by rw [flat_one]; simp only [List.length_nil]; omega) (by omega) HP7.out hI7).mono ?_
        rintro e w8 ⟨rfl, hg8, hI8⟩
        rw [flat_one, List.nil_append] at hI8
        have hZ : Tz w w8 A B wr.heap.size rs s.data.toList := ⟨hbel7.trans (gb_toBelow hg8 hbel.size hbel7.size), gb_has hg8 hA7 (by intro e; have := Option.some.inj e; omega), gb_has hg8 hB7 (by intro e; have := Option.some.inj e; omega), hI8,
          hT7.grown hg8 (by intro e; exact hne1 (Option.some.inj e).symm) (by intro e; exact hne2 (Option.some.inj e).symm)⟩
        clear hg8 hI8 hI7 HP7 hT7 hA7 hB7 hbel7 hb67 hlt6 hne1 hne2 hT5 hbel hA hB hAlt2 hBlt2
        generalize wr.heap.size = C at *
        go_wp2_with fail
        have hlm : s.data.toList.length ≤ 1152921504606846976 := by omega
        have hsum : ∀ wx, Tz w wx A B C rs s.data.toList → Calls Tryd.prog 15 #[.pointer (some ⟨C, 0, none⟩)] wx fun e w' => e = .returned (.agg (bytesV rs)) ∧ Below wx.heap.size wx w' := fun wx h => by
          rw [HRS.out]; exact sum C s.data.toList wx h.tab hlm h.c
        obtain ⟨hsb, hhsb⟩ : ∃ hsb : ByteArray, hsb = ⟨rs.toArray⟩ := ⟨_, rfl⟩
        have hof : ∀ wx b, Tab wx → wx.cell? ⟨b, 0, none⟩ = some (.string hsb) → Calls Tryd.prog 9 #[.slice (some ⟨b, 0, none⟩) 1 1] wx fun e w' => e = .returned (.agg (bytesV (sha rs))) ∧ Below wx.heap.size wx w' := fun wx b h1 h2 => by
          have := of (some ⟨b, 0, none⟩) [hsb] 1 1 rfl wx h1 (by rw [flat_one, hhsb]; show rs.length ≤ _; rw [HL.out]; omega) (by omega) (PartsW.one h2)
          rw [flat_one, show hsb.data.toList = rs by rw [hhsb]] at this
          exact this
        have hdb : ∀ wx b, Tab wx → wx.cell? ⟨b, 0, none⟩ = some (.string s) → Calls Tryd.prog 11 #[.slice (some ⟨b, 0, none⟩) 1 1] wx fun e w' => e = .returned (.agg (bytesV (sha rs))) ∧ Below wx.heap.size wx w' := fun wx b h1 h2 => by
          have := double (some ⟨b, 0, none⟩) [s] 1 1 rfl wx h1 (by rw [flat_one]; omega) (by omega) (PartsW.one h2)
          rw [flat_one, ← HRS.out] at this
          exact this
        have hcv : ∀ wx, Tz w wx A B C rs s.data.toList → (Go.convert 40 9 (.slice (some ⟨B, 0, none⟩) 32 32)).run Tryd.prog wx = .ok (.string hsb) wx := fun wx h => by
          rw [hhsb]; exact h.conv HL.out
        have hih : ∀ wx, Tz w wx A B C rs s.data.toList → IsHash wx A := fun wx h => ⟨rs, HL.out, h.a⟩
        have hho : ∀ wx, Tz w wx A B C rs s.data.toList → hashOf wx A = .agg (bytesV rs) := fun wx h => hashOf_eq h.a
        have hq1 := eql_self (sha rs) (sha_length _)
        have hq2 := eql_self rs HL.out
        clear hhsb hsz hlm
        have hZa : ∀ o, Tz w (w8.alloc o).drew A B C rs s.data.toList := fun o => (hZ.alloc o).drew
        have hZd : Tz w w8.drew A B C rs s.data.toList := hZ.drew
        have hZb : ∀ o o', Tz w ((w8.alloc o).alloc o').drew A B C rs s.data.toList := fun o o' => ((hZ.alloc o).alloc o').drew
        have HSUM := Lib.hid hsum
        have HOF := Lib.hid hof
        have HDB := Lib.hid hdb
        clear hsum hof hdb
        generalize s.data.toList = m at *
        generalize bytesV (sha rs) = V1 at *
        clear HSZ HO hge hAlt hBsz hT hZa hZd hZb
        refine wp_region_inv (by kernel_rfl) (fun wx => Tz w wx A B C rs m) (fun i v w' => (twTab s hsb V1 (bytesV rs) B C i).holds v w') (fun _ _ h hb => h.step hb) (fun i v w w' _ hb h => SlotSpec.stays _ _ _ _ hb h) (by kernel_rfl) hZ ?_ ?_
        · intro i o listed a wx ho hdep hinv
          have htz := hinv.c
          have hi : i < 21 := (Array.getElem?_eq_some_iff.1 ho).1
          obtain rfl | rfl | rfl | rfl | rfl | rfl | rfl | rfl | rfl | rfl | rfl | rfl | rfl | rfl | rfl | rfl | rfl | rfl | rfl | rfl | rfl : i = 0 ∨ i = 1 ∨ i = 2 ∨ i = 3 ∨ i = 4 ∨ i = 5 ∨ i = 6 ∨ i = 7 ∨ i = 8 ∨ i = 9 ∨ i = 10 ∨ i = 11 ∨ i = 12 ∨ i = 13 ∨ i = 14 ∨ i = 15 ∨ i = 16 ∨ i = 17 ∨ i = 18 ∨ i = 19 ∨ i = 20 := by omega
          all_goals obtain rfl := Option.some.inj ho
          · have e0 : a.eval (.tmp 0) = .string s := hinv.old' 0 (by kernel_rfl)
            exact duty_value (wanted_free rfl) rfl e0
          · have e1 : a.eval (.tmp 33) = .string s := hinv.got 0 _ 33 rfl (hdep ⟨0, .data⟩ (by simp) rfl) rfl
            exact duty_made (w' := wx.alloc (.cells #[.string s] 9)) (wanted_free rfl) (ex_slice1 rfl e1 (slice_one s wx)) ((Below.refl _ _).alloc (Nat.le_refl _) _) ⟨_, rfl, by simp⟩
          · have e1 : SlotSpec.holds (.sl s) (a.eval (.tmp 34)) wx := hinv.got 1 _ 34 rfl (hdep ⟨1, .data⟩ (by simp) rfl) rfl
            obtain ⟨b, hv, hc⟩ := e1
            refine duty_call (wanted_free rfl) (f := 11) (args := #[a.eval (.tmp 34)]) (by kernel_rfl) (by rw [hv]; exact HDB.out wx b htz.tab hc) (fun _ _ => rfl)
          · have e0 : a.eval (.tmp 4) = .slice (some ⟨B, 0, none⟩) 32 32 := hinv.old' 4 (by kernel_rfl)
            exact duty_value (wanted_free rfl) rfl e0
          · have e3 : a.eval (.tmp 36) = .slice (some ⟨B, 0, none⟩) 32 32 := hinv.got 3 _ 36 rfl (hdep ⟨3, .data⟩ (by simp) rfl) rfl
            exact duty_value (wanted_free rfl) (ex_convert rfl (by rw [e3]; exact hcv wx htz)) rfl
          · have e4 : a.eval (.tmp 37) = .string hsb := hinv.got 4 _ 37 rfl (hdep ⟨4, .data⟩ (by simp) rfl) rfl
            exact duty_made (w' := wx.alloc (.cells #[.string hsb] 9)) (wanted_free rfl) (ex_slice1 rfl e4 (slice_one hsb wx)) ((Below.refl _ _).alloc (Nat.le_refl _) _) ⟨_, rfl, by simp⟩
          · have e5 : SlotSpec.holds (.sl hsb) (a.eval (.tmp 38)) wx := hinv.got 5 _ 38 rfl (hdep ⟨5, .data⟩ (by simp) rfl) rfl
            obtain ⟨b, hv, hc⟩ := e5
            refine duty_call (wanted_free rfl) (f := 9) (args := #[a.eval (.tmp 38)]) (by kernel_rfl) (by rw [hv]; exact HOF.out wx b htz.tab hc) (fun _ _ => rfl)
          · have e2 : a.eval (.tmp 35) = .agg V1 := hinv.got 2 _ 35 rfl (hdep ⟨2, .data⟩ (by simp) rfl) rfl
            have e6 : a.eval (.tmp 39) = .agg V1 := hinv.got 6 _ 39 rfl (hdep ⟨6, .data⟩ (by simp) rfl) rfl
            exact duty_value (wanted_free rfl) (ex_eql rfl e2 e6 (by kernel_rfl) (hq1 wx)) rfl
          · exact duty_value (wanted_free rfl) rfl (hinv.got 7 _ 40 rfl (hdep ⟨7, .data⟩ (by simp) rfl) rfl)
          · have g8 : a.eval (.tmp 41) = .bool true := hinv.got 8 _ 41 rfl (hdep ⟨8, .guard⟩ (by simp) rfl) rfl
            have e0 : a.eval (.tmp 6) = .pointer (some ⟨C, 0, none⟩) := hinv.old' 6 (by kernel_rfl)
            exact duty_value (wanted_of rfl (yielded_of rfl rfl g8)) rfl e0
          · have g8 : a.eval (.tmp 41) = .bool true := hinv.got 8 _ 41 rfl (hdep ⟨8, .guard⟩ (by simp) rfl) rfl
            have e9 : a.eval (.tmp 42) = .pointer (some ⟨C, 0, none⟩) := hinv.got 9 _ 42 rfl (hdep ⟨9, .data⟩ (by simp) rfl) rfl
            exact duty_call (wanted_of rfl (yielded_of rfl rfl g8)) (f := 15) (args := #[a.eval (.tmp 42)]) (by kernel_rfl) (by rw [e9]; exact HSUM.out wx htz) (fun _ _ => rfl)
          · have g8 : a.eval (.tmp 41) = .bool true := hinv.got 8 _ 41 rfl (hdep ⟨8, .guard⟩ (by simp) rfl) rfl
            have e0 : a.eval (.tmp 3) = .pointer (some ⟨A, 0, none⟩) := hinv.old' 3 (by kernel_rfl)
            exact duty_value (wanted_of rfl (yielded_of rfl rfl g8)) (load_op2 _ _ _ rfl (by show IsHashV wx (a.eval (.tmp 3)); rw [e0]; exact isHashV _ _ (hih wx htz))) (by show hashOfV wx (a.eval (.tmp 3)) = _; rw [e0]; exact hho wx htz)
          · have g8 : a.eval (.tmp 41) = .bool true := hinv.got 8 _ 41 rfl (hdep ⟨8, .guard⟩ (by simp) rfl) rfl
            have e10 : a.eval (.tmp 43) = .agg (bytesV rs) := hinv.got 10 _ 43 rfl (hdep ⟨10, .data⟩ (by simp) rfl) rfl
            have e11 : a.eval (.tmp 44) = .agg (bytesV rs) := hinv.got 11 _ 44 rfl (hdep ⟨11, .data⟩ (by simp) rfl) rfl
            exact duty_value (wanted_of rfl (yielded_of rfl rfl g8)) (ex_eql rfl e10 e11 (by kernel_rfl) (hq2 wx)) rfl
          · have e8 : a.eval (.tmp 41) = .bool true := hinv.got 8 _ 41 rfl (hdep ⟨8, .data⟩ (by simp) rfl) rfl
            have e12 : a.eval (.tmp 45) = .bool true := hinv.got 12 _ 45 rfl (hdep ⟨12, .data⟩ (by simp) rfl) rfl
            exact duty_value (wanted_free rfl) (ex_pick rfl e8) e12
          · exact duty_value (wanted_free rfl) rfl (hinv.got 13 _ 46 rfl (hdep ⟨13, .data⟩ (by simp) rfl) rfl)
          · have g14 : a.eval (.tmp 47) = .bool true := hinv.got 14 _ 47 rfl (hdep ⟨14, .guard⟩ (by simp) rfl) rfl
            have e0 : a.eval (.tmp 6) = .pointer (some ⟨C, 0, none⟩) := hinv.old' 6 (by kernel_rfl)
            exact duty_value (wanted_of rfl (yielded_of rfl rfl g14)) rfl e0
          · have g14 : a.eval (.tmp 47) = .bool true := hinv.got 14 _ 47 rfl (hdep ⟨14, .guard⟩ (by simp) rfl) rfl
            have e15 : a.eval (.tmp 48) = .pointer (some ⟨C, 0, none⟩) := hinv.got 15 _ 48 rfl (hdep ⟨15, .data⟩ (by simp) rfl) rfl
            exact duty_call (wanted_of rfl (yielded_of rfl rfl g14)) (f := 15) (args := #[a.eval (.tmp 48)]) (by kernel_rfl) (by rw [e15]; exact HSUM.out wx htz) (fun _ _ => rfl)
          · have g14 : a.eval (.tmp 47) = .bool true := hinv.got 14 _ 47 rfl (hdep ⟨14, .guard⟩ (by simp) rfl) rfl
            have e0 : a.eval (.tmp 3) = .pointer (some ⟨A, 0, none⟩) := hinv.old' 3 (by kernel_rfl)
            exact duty_value (wanted_of rfl (yielded_of rfl rfl g14)) (load_op2 _ _ _ rfl (by show IsHashV wx (a.eval (.tmp 3)); rw [e0]; exact isHashV _ _ (hih wx htz))) (by show hashOfV wx (a.eval (.tmp 3)) = _; rw [e0]; exact hho wx htz)
          · have g14 : a.eval (.tmp 47) = .bool true := hinv.got 14 _ 47 rfl (hdep ⟨14, .guard⟩ (by simp) rfl) rfl
            have e16 : a.eval (.tmp 49) = .agg (bytesV rs) := hinv.got 16 _ 49 rfl (hdep ⟨16, .data⟩ (by simp) rfl) rfl
            have e17 : a.eval (.tmp 50) = .agg (bytesV rs) := hinv.got 17 _ 50 rfl (hdep ⟨17, .data⟩ (by simp) rfl) rfl
            exact duty_value (wanted_of rfl (yielded_of rfl rfl g14)) (ex_eql rfl e16 e17 (by kernel_rfl) (hq2 wx)) rfl
          · have e14 : a.eval (.tmp 47) = .bool true := hinv.got 14 _ 47 rfl (hdep ⟨14, .data⟩ (by simp) rfl) rfl
            have e18 : a.eval (.tmp 51) = .bool true := hinv.got 18 _ 51 rfl (hdep ⟨18, .data⟩ (by simp) rfl) rfl
            exact duty_value (wanted_free rfl) (ex_pick rfl e14) e18
          · exact duty_value (wanted_free rfl) rfl (hinv.got 19 _ 52 rfl (hdep ⟨19, .data⟩ (by simp) rfl) rfl)
        · intro listed a wx hall hinv
          have e2 : a.eval (.tmp 2) = .bool true := hinv.got 20 _ 2 rfl (hall 20 (by decide)) rfl
          have hbel := hinv.c.below
          have hdf := hinv.defers
          obtain ⟨tm, df⟩ := a
          obtain rfl : df = [] := hdf
          go_wp2_with fail
          go_ret
          exact ⟨congrArg Ending.returned e2, hbel⟩
end Go.Proofs.YtmfjmkpgmacmpaaDoor
