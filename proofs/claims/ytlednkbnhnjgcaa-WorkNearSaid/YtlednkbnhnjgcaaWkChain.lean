import Derived.Test.YtlednkbnhnjgcaaWkOf
namespace Go.Proofs.Ytlednkbnhnjgcaa
open Go.RowKit Rg2
def intRow (bs : List Int) : Array Value := (bs.map (Value.int .i64)).toArray
theorem intRow_get {bs : List Int} {k : Nat} (h : k < bs.length) : (intRow bs)[k]? = some (.int .i64 (bs[k]?.getD 0)) := by
  simp [intRow, h]
/-- block O holds x till operation k, which lays y there -/
def Turn (k O x y : Nat) (l : Array Bool) (w : World) : Prop := (l.getD k false = false → Has w O (numC x) 24) ∧ (l.getD k false = true → Has w O (numC y) 24)
theorem Turn.now {k O x y i : Nat} {l : Array Bool} {w : World} (h : Turn k O x y l w) (hi : i < l.size) (hik : i ≠ k) (ha : (l.setIfInBounds i true).getD k false = false) : Has w O (numC x) 24 :=
  h.1 (by rw [getD_set _ _ _ hi, if_neg hik] at ha; exact ha)
theorem Turn.pre {k O x y i : Nat} {l : Array Bool} {w w' : World} (h : Turn k O x y l w) (hi : i < l.size) (hik : i ≠ k) (ha : (l.setIfInBounds i true).getD k false = false) (hw : Has w O (numC x) 24 → Has w' O (numC x) 24) : Turn k O x y (l.setIfInBounds i true) w' :=
  ⟨fun _ => hw (h.now hi hik ha), fun hk => by rw [ha] at hk; cases hk⟩
def chainTo (bs : List Int) : Nat → Nat
  | 0 => 0
  | k + 1 => Nm.cap (chainTo bs k + ofBits (bs[k]?.getD 0))
theorem chainTo_lt (bs : List Int) : ∀ k, chainTo bs k < Nm.big
  | 0 => show 0 < Nm.big by decide
  | _ + 1 => Nm.cap_lt _
/-- the list, the result, the total -/
structure Ch (w wr : World) (b R O : Nat) (bs : List Int) (s : Nat) : Prop where
  below : Below w.heap.size w wr
  l : Has wr b (intRow bs) 3
  r : Has wr R (numC 0) 24
  o : Has wr O (numC s) 24
/-- .. while the region runs: the total is told apart -/
structure ChC (w v wr : World) (b R : Nat) (bs : List Int) : Prop where
  below : Below w.heap.size w wr
  grow : v.heap.size ≤ wr.heap.size
  l : Has wr b (intRow bs) 3
  r : Has wr R (numC 0) 24
theorem ChC.on {w v wr w' : World} {b R : Nat} {bs : List Int} (h : ChC w v wr b R bs) (hb : Below wr.heap.size wr w') : ChC w v w' b R bs :=
  ⟨h.below.trans (hb.mono h.below.size), Nat.le_trans h.grow hb.size, h.l.on hb, h.r.on hb⟩
def NewStay (B : Nat) (w w' : World) : Prop := ∀ b cs t, B ≤ b → Has w b cs t → Has w' b cs t
def chSlot (tot ob tot2 B : Nat) (xi : Int) : Nat → Value → World → Prop
  | 0, v, _ => v = .agg (numC tot)
  | 1, v, _ => v = .int .i64 xi
  | 2, v, _ => v = .agg (numC ob)
  | 3, v, w => ∃ b', B ≤ b' ∧ v = .slice (some ⟨b', 0, none⟩) 2 2 ∧ Has w b' (numRow [tot, ob]) 24
  | 4, v, _ => v = .agg (numC tot2)
  | _, _, _ => True
theorem chSlot_stays (tot ob tot2 B : Nat) (xi : Int) (i : Nat) (v : Value) (w w' : World) (hs : NewStay B w w') (h : chSlot tot ob tot2 B xi i v w) : chSlot tot ob tot2 B xi i v w' := by
  match i with
  | 0 => exact h
  | 1 => exact h
  | 2 => exact h
  | 3 => obtain ⟨b', h1, h2, h3⟩ := h; exact ⟨b', h1, h2, hs _ _ _ h1 h3⟩
  | 4 => exact h
  | n + 5 => trivial
set_option maxRecDepth 100000 in
set_option maxHeartbeats 2000000 in
theorem chain (b : Nat) (bs : List Int) (n : Nat) (hn : n = bs.length) (hmax : n < 9223372036854775807) (w : World) (hL : Has w b (intRow bs) 3) :
    Calls Try.prog 11 #[.slice (some ⟨b, 0, none⟩) n n] w fun e w' => e = .returned (.agg (numC (chainTo bs n))) ∧ Below w.heap.size w w' := by
  have HN := Lib.hid hn
  clear hn
  go_enter Try.func11, Try.ntmps11
  go_wp2_with fail
  generalize hw1 : World.alloc _ _ = w1
  have h0 : Ch w w1 b w.heap.size (w.heap.size + 1) bs 0 := by
    rw [← hw1]
    exact ⟨((Below.refl _ _).alloc (Nat.le_refl _) _).alloc (by simp) _, (hL.alloc _).alloc _, (Has.new (numC 0) _).alloc _, Has.new1 _ (numC 0) _⟩
  have hbl := hL.lt
  clear hw1 hL
  generalize hB : w.heap.size + 1 = O at *
  generalize hC : w.heap.size = R at *
  have HO : Hid (w.heap.size ≤ O) := Lib.hid (by omega)
  have HR : Hid (w.heap.size ≤ R) := Lib.hid (by omega)
  have H1 : Hid (b ≠ O) := Lib.hid (by omega)
  have H3 : Hid (R ≠ O) := Lib.hid (by omega)
  clear hB hC hbl
  go_loopw [8] (fun i wr => ∃ k : Nat, k ≤ n ∧ i = .int .i64 k ∧ Ch w wr b R O bs (chainTo bs k)) (fun i _ => n - (intOf i).toNat)
  case atStart => exact ⟨0, by omega, rfl, h0⟩
  case round =>
    obtain ⟨k, hk, rfl, hs⟩ := hrel
    by_cases hlt : k < n
    · have hkx : k < bs.length := by rw [← HN.out]; exact hlt
      have c1 : wr.cell? ⟨b, k, none⟩ = some (.int .i64 (bs[k]?.getD 0)) := (hs.l.cell k).trans (intRow_get hkx)
      obtain ⟨x, hx⟩ : ∃ x, x = bs[k]?.getD 0 := ⟨_, rfl⟩
      obtain ⟨tot, ht⟩ : ∃ tot, tot = chainTo bs k := ⟨_, rfl⟩
      obtain ⟨tot2, ht2⟩ : ∃ tot2, tot2 = chainTo bs (k + 1) := ⟨_, rfl⟩
      have HT2 := Lib.hid ht2
      have hsum := fun b w hL => wsum2 tot (ofBits x) (by rw [ht]; exact chainTo_lt _ _) (ofBits_lt _) tot2 (by rw [ht2, ht, hx]; rfl) b w hL
      have hbits := fun w => wbits x w
      rw [← ht] at hs
      rw [← hx] at c1
      clear hkx hx ht ht2
      generalize ofBits x = ob at hsum hbits
      have KSum := Lib.hid hsum
      have KBits := Lib.hid hbits
      clear hsum hbits
      go_wp2_with fail
      have hT : ChC w wr wr b R bs := ⟨hs.below, Nat.le_refl _, hs.l, hs.r⟩
      have hOl := hs.o.lt
      refine Rg2.wp_region_inv (by kernel_rfl) (fun w' => ChC w wr w' b R bs) (fun i v w' => chSlot tot ob tot2 wr.heap.size x i v w') (fun l _ w' => Turn 5 O tot tot2 l w') (NewStay wr.heap.size) (fun _ _ _ _ _ _ h => h) (fun i v w w' _ hs h => chSlot_stays _ _ _ _ _ i v w w' hs h) (by kernel_rfl) ⟨hT.below.drew, hT.grow, hT.l.drew, hT.r.drew⟩ ?_ ?_ ?_
      · exact fun l hl => ⟨fun _ => hs.o.drew, fun hk => (by rw [hl] at hk; cases hk)⟩
      · intro i o listed a wx ho hn hdep hinv
        have hC := hinv.c
        have hI := hinv.i
        have hi : i < 6 := (Array.getElem?_eq_some_iff.1 ho).1
        obtain rfl | rfl | rfl | rfl | rfl | rfl : i = 0 ∨ i = 1 ∨ i = 2 ∨ i = 3 ∨ i = 4 ∨ i = 5 := by omega
        all_goals obtain rfl := Option.some.inj ho
        · exact duty_value (fun w' _ _ _ _ _ h => h) hC (wanted_free rfl) (ex_load_num rfl (hinv.old' 3 (by kernel_rfl)) (hI.now (by rw [hinv.size]; decide) (by decide) (hinv.aheadT 8 (by kernel_rfl) hn (by decide) (by decide)))) rfl (hI.pre (by rw [hinv.size]; decide) (by decide) (hinv.aheadT 8 (by kernel_rfl) hn (by decide) (by decide)) (fun h => h))
        · exact duty_value (fun w' _ _ _ _ _ h => h) hC (wanted_free rfl) (ex_move rfl) (hinv.old' 5 (by kernel_rfl)) (hI.pre (by rw [hinv.size]; decide) (by decide) (hinv.aheadT 8 (by kernel_rfl) hn (by decide) (by decide)) (fun h => h))
        · have e13 : a.eval (.tmp 13) = .int .i64 x := hinv.got 1 _ 13 rfl (hdep ⟨1, .data⟩ (by simp) rfl) rfl
          exact duty_call (wanted_free rfl) (f := 10) (args := #[a.eval (.tmp 13)]) (by kernel_rfl) (by rw [e13]; exact KBits.out wx) (fun w' hb => ⟨hC.on hb, fun _ _ _ _ h => h.on hb, rfl, hI.pre (by rw [hinv.size]; decide) (by decide) (hinv.aheadT 8 (by kernel_rfl) hn (by decide) (by decide)) (fun h => h.on hb)⟩)
        · have hbel' : Below wx.heap.size wx (wx.alloc (.cells (numRow [tot, ob]) 24)) := (Below.refl _ _).alloc (Nat.le_refl _) _
          exact duty_made (wanted_free rfl) (ex_build2 rfl (hinv.got 0 _ 12 rfl (hdep ⟨0, .data⟩ (by simp) rfl) rfl) (hinv.got 2 _ 14 rfl (hdep ⟨2, .data⟩ (by simp) rfl) rfl)) (hC.on hbel') (fun _ _ _ _ h => h.on hbel') ⟨wx.heap.size, hC.grow, rfl, Has.new _ _⟩ (hI.pre (by rw [hinv.size]; decide) (by decide) (hinv.aheadT 8 (by kernel_rfl) hn (by decide) (by decide)) (fun h => h.on hbel'))
        · obtain ⟨b', hb1, e15, hb3⟩ : ∃ b', wr.heap.size ≤ b' ∧ a.eval (.tmp 15) = .slice (some ⟨b', 0, none⟩) 2 2 ∧ Has wx b' (numRow [tot, ob]) 24 := hinv.got 3 _ 15 rfl (hdep ⟨3, .data⟩ (by simp) rfl) rfl
          exact duty_call (wanted_free rfl) (f := 19) (args := #[a.eval (.tmp 15)]) (by kernel_rfl) (by rw [e15]; exact KSum.out b' wx hb3) (fun w' hb => ⟨hC.on hb, fun _ _ _ _ h => h.on hb, rfl, hI.pre (by rw [hinv.size]; decide) (by decide) (hinv.aheadT 8 (by kernel_rfl) hn (by decide) (by decide)) (fun h => h.on hb)⟩)
        · have hO := hI.1 (by exact hn)
          exact duty_store (wanted_free rfl) (ex_store_num rfl (hinv.old' 3 (by kernel_rfl)) (hinv.got 4 _ 16 rfl (hdep ⟨4, .data⟩ (by simp) rfl) rfl) hO rfl) ⟨below_setRow hC.below HO.out _, by rw [setRow_size]; exact hC.grow, hC.l.otherRow _ _ H1.out, hC.r.otherRow _ _ H3.out⟩ (fun b' _ _ hb' h => h.otherRow _ _ (by omega)) trivial ⟨fun hk => (by rw [getD_set _ _ _ (by rw [hinv.size]; decide), if_pos rfl] at hk; cases hk), fun _ => hO.row _⟩
      · intro listed a wx hall hinv
        have hC := hinv.c
        have hO := hinv.i.2 (hall 5 (by decide))
        have h2 : Ch w wx b R O bs tot2 := ⟨hC.below, hC.l, hC.r, hO⟩
        obtain ⟨u, hu⟩ : ∃ u : Nat → Value, ∀ t, u t = a.eval (.tmp t) := ⟨_, fun _ => rfl⟩
        rw [frame_back a 19 u hinv.tsize hinv.defers hu]
        have f0 := hinv.old' 0 (by kernel_rfl)
        have f1 := hinv.old' 1 (by kernel_rfl)
        have f2 := hinv.old' 2 (by kernel_rfl)
        have f3 := hinv.old' 3 (by kernel_rfl)
        have f4 := hinv.old' 4 (by kernel_rfl)
        have f5 := hinv.old' 5 (by kernel_rfl)
        have f6 := hinv.old' 6 (by kernel_rfl)
        have f7 := hinv.old' 7 (by kernel_rfl)
        have f8 := hinv.old' 8 (by kernel_rfl)
        have f9 := hinv.old' 9 (by kernel_rfl)
        have f10 := hinv.old' 10 (by kernel_rfl)
        have f11 := hinv.old' 11 (by kernel_rfl)
        have f17 := hinv.old' 17 (by kernel_rfl)
        have f18 := hinv.old' 18 (by kernel_rfl)
        simp only [← hu] at f0 f1 f2 f3 f4 f5 f6 f7 f8 f9 f10 f11 f17 f18
        simp [Act.eval] at f0 f1 f2 f3 f4 f5 f6 f7 f8 f9 f10 f11 f17 f18
        clear hu hinv hall
        show Exit.inBlock 1 (Exit.then _ _) _ (⟨#[u 0, u 1, u 2, u 3, u 4, u 5, u 6, u 7, u 8, u 9, u 10, u 11, u 12, u 13, u 14, u 15, u 16, u 17, u 18], []⟩ : Act) _
        rw [f0, f1, f2, f3, f4, f5, f6, f7, f8, f9, f10, f11, f17, f18]
        clear f0 f1 f2 f3 f4 f5 f6 f7 f8 f9 f10 f11 f17 f18
        clear hs hC hO hT hOl c1
        go_wp2_with fail
        go_roundw
        case rel => exact ⟨k + 1, by omega, by go_num, by rw [← HT2.out]; exact h2⟩
        case measure => simp [intOf]; omega
    · obtain rfl : k = n := by omega
      go_wp2_with (first
        | (with_reducible refine num_load rfl _ rfl _ rfl _ hs.o rfl ?_)
        | (with_reducible refine num_store rfl _ _ rfl _ _ rfl rfl _ hs.r rfl ?_))
      exact bodyPost_ret (v := .agg (numC (chainTo bs k))) (num_results Try.results11 _ _ _ rfl (hs.r.row _)) rfl ⟨rfl, below_setRow hs.below HR.out _⟩
end Go.Proofs.Ytlednkbnhnjgcaa
