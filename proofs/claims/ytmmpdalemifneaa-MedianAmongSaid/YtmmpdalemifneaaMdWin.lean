/-
  The window: its twelve cells, Push, Times, Mid.
-/
import Derived.Test.YtmmpdalemifneaaMdOf
namespace Go.Proofs.Ytmmpdalemifneaa
open Go.RowKit Mem Md
/-- eleven numbers and how many of them there are -/
def cellsW (a : List Int) (s : Int) : List Value := a.map (Value.int .i64) ++ [Value.int .i64 s]
/-- the eleven of a window that was told these times, the newest first -/
def elev (h : List Int) : List Int := (h ++ List.replicate 11 0).take 11
theorem elev_length (h : List Int) : (elev h).length = 11 := by simp [elev]
def winC (h : List Int) : Array Value := (cellsW (elev h) (min h.length 11 : Nat)).toArray
theorem elev_cons (x : Int) (h : List Int) : elev (x :: h) = x :: (elev h).take 10 := by simp [elev, List.take_take]
theorem elev_take (h : List Int) : (elev h).take (min h.length 11) = h.take 11 := by
  unfold elev
  rw [List.take_take]
  by_cases h1 : h.length ≤ 11
  · rw [show min (min h.length 11) 11 = h.length by omega, List.take_left' rfl, List.take_of_length_le h1]
  · rw [show min (min h.length 11) 11 = 11 by omega, List.take_append_of_le_length (by omega)]
theorem win_congr {h g : List Int} (e : h.take 11 = g.take 11) : winC h = winC g := by
  have hl := congrArg List.length e
  simp only [List.length_take] at hl
  have e2 : elev h = elev g := by
    unfold elev
    by_cases h1 : h.length < 11
    · have h2 : h = g := by
        rw [List.take_of_length_le (by omega), List.take_of_length_le (by omega)] at e
        exact e
      rw [h2]
    · rw [List.take_append_of_le_length (by omega), List.take_append_of_le_length (by omega), e]
  unfold winC
  rw [e2, show min h.length 11 = min g.length 11 by omega]
theorem cellsW_get (a : List Int) (s : Int) (j : Nat) (hj : j < a.length) : (cellsW a s).toArray[j]? = some (.int .i64 (a.getD j 0)) := by
  simp [cellsW, List.getElem?_append, hj]
theorem cellsW_last (a : List Int) (s : Int) (h : a.length = 11) : (cellsW a s).toArray[11]? = some (.int .i64 s) := by
  simp [cellsW, h]
theorem cellsW_set0 (y x : Int) (a : List Int) (s : Int) : (cellsW (y :: a) s).toArray.setIfInBounds 0 (.int .i64 x) = (cellsW (x :: a) s).toArray := by
  simp [cellsW]
theorem cellsW_set11 (a : List Int) (s t : Int) (h : a.length = 11) : (cellsW a s).toArray.setIfInBounds 11 (.int .i64 t) = (cellsW a t).toArray := by
  simp [cellsW, h]
theorem cellsW_move (a : List Int) (s : Int) (h : a.length = 11) :
    ((cellsW a s).take 1 ++ (cellsW a s).take 10 ++ (cellsW a s).drop 11) = cellsW (a.headD 0 :: a.take 10) s := by
  match a, h with
  | [a0, a1, a2, a3, a4, a5, a6, a7, a8, a9, a10], _ => rfl
/-- copy within a row, as one step of a drawn region -/
theorem step_copy_row {P : Program} {ops : Array Oper} {o : Oper} {a : Act} {w : World} {K : Act → World → Prop} {Q : Exit → Act → World → Prop} {E : Prop} (hgd : o.guard = none) (d s : Operand) (dT sT : TypeId)
    (ho : o.op = .call { callee := .builtin .copy, args := #[d, s], argTypes := #[dT, sT] }) (elem : TypeId) (hu : P.underlying dT = some (.slice elem)) (hsz : (P.info? elem).map (·.size) = some 1)
    (g off dLen dCap : Nat) (ad : Addr) (sLen sCap : Nat) (hd : a.eval d = .slice (some ⟨g, off, none⟩) dLen dCap) (hs : a.eval s = .slice (some ad) sLen sCap)
    (cur : Array Value) (t : TypeId) (hg : w.heap[g]? = some (.cells cur t (0, 0))) (cs : List Value) (hn : cs.length = Nat.min sLen dLen)
    (hsrc : ∀ j v, cs[j]? = some v → w.cell? (ad.add j) = some v) (hfit : off + cs.length ≤ cur.size) (h1 : ∀ v ∈ cs, v.oneCell' = true)
    (hK : K (a.put o.dst (goInt cs.length)) (w.setRow g (cur.toList.take off ++ (cs ++ cur.toList.drop (off + cs.length))).toArray)) :
    if Region.wanted o (yielded ops a.tmps) = true then Oper.wp P o a w K Q else E := by
  have hw : Region.wanted o (yielded ops a.tmps) = true := by simp [Region.wanted, hgd]
  rw [if_pos hw]
  have hrun := run_copy_row (P := P) w dT sT o.type elem g off dLen dCap ad sLen sCap cur t cs hu hsz hg hn hsrc hfit h1
  unfold Oper.wp
  simp [execOp, ho, resolve, invoke, builtin, hd, hs, hrun, Result.andThen]
  exact hK
theorem infoInt : (Try.prog.info? 3).map (·.size) = some 1 := by kernel_rfl
theorem sizeInt : ∀ w, (sizeOf 3).run Try.prog w = .ok 1 w := Try.sizeOf3
set_option maxRecDepth 100000 in
set_option maxHeartbeats 1000000 in
theorem push_nil (p : Option Addr) (n cap : Nat) (w : World) : Calls Try.prog 13 #[.pointer none, .slice p n cap] w fun r w' => r = .returned (.tuple #[]) ∧ w' = w := by
  go_enter Try.func13, Try.ntmps13
  go_wp2_with fail
  exact bodyPost_ret (v := .tuple #[]) (by simp [results, Try.results13, go_sem]) rfl ⟨rfl, rfl⟩
set_option maxRecDepth 100000 in
set_option maxHeartbeats 2000000 in
theorem push_raw (b n cap lo hi : Nat) (p : Option Addr) (l h : List Int) (hl : l.length = n) (hc : n ≤ cap) (hmax : n < 4611686018427387904) (w : World) (hL : Lie w lo hi p l) (hb : b < lo ∨ hi ≤ b) (hs : hi ≤ w.heap.size)
    (hW : Has w b (winC h) 32) :
    Calls Try.prog 13 #[.pointer (some ⟨b, 0, none⟩), .slice p n cap] w fun r w' => r = .returned (.tuple #[]) ∧ w.grownBy w' (some b) ∧ Has w' b (winC ((l.drop (n - 11)).reverse ++ h)) 32 := by
  obtain ⟨q, hq⟩ : ∃ q : Int, q = (n : Int) - 11 := ⟨_, rfl⟩
  obtain ⟨k, hk⟩ : ∃ k, k = n - 11 := ⟨_, rfl⟩
  have hwr : IntKind.i64.wrap ((n : Int) - 11) = q := by rw [IntKind.wrap_i64]; omega
  have hmx := max_is (P := Try.prog) 0 q (k : Int) (by omega)
  obtain ⟨p', hcut, hD⟩ := cut_drop hl (by omega : k ≤ n) hc hL
  obtain ⟨m, hm⟩ : ∃ m, m = n - k := ⟨_, rfl⟩
  rw [← hk]
  have hlen : (l.drop k).length = m := by simp; omega
  rw [← hm] at hcut
  have hm11 : m ≤ 11 := by omega
  generalize l.drop k = L at *
  clear hq hk hm hL hl hc hmax
  go_enter Try.func13, Try.ntmps13
  go_wp2_with fail
  go_loopw [15] (fun i wr => ∃ k : Nat, k ≤ m ∧ i = .int .i64 k ∧ w.grownBy wr (some b) ∧ Has wr b (winC ((L.take k).reverse ++ h)) 32) (fun i _ => m - (intOf i).toNat)
  case atStart => exact ⟨0, by omega, rfl, gb_refl _ _, by simpa using hW⟩
  case round =>
    obtain ⟨k, hk, rfl, hg, hI⟩ := hrel
    by_cases hlt : k < m
    · obtain ⟨vb, off, rfl, hb1, hb2, hcell⟩ := hD (by omega)
      have c1 : wr.cell? ⟨vb, off + k, none⟩ = some (.int .i64 (L.getD k 0)) := (World.cell?_of_block (w := w) (hg.block vb (by omega) (by intro e; cases e; omega))).trans (hcell k (by omega))
      obtain ⟨x, hx⟩ : ∃ x, x = L.getD k 0 := ⟨_, rfl⟩
      rw [← hx] at c1
      have hstep : Hid (winC ((L.take (k + 1)).reverse ++ h) = (cellsW (x :: (elev ((L.take k).reverse ++ h)).take 10) (min (((L.take k).reverse ++ h).length + 1) 11 : Nat)).toArray) := Lib.hid (by
        have e1 : L.take (k + 1) = L.take k ++ [x] := by
          rw [List.take_add_one, hx]
          simp [List.getD_eq_getElem?_getD, show k < L.length by omega]
        rw [e1, List.reverse_append]
        unfold winC
        rw [show [x].reverse ++ (L.take k).reverse ++ h = x :: ((L.take k).reverse ++ h) by simp, elev_cons]
        simp)
      generalize (L.take k).reverse ++ h = H at *
      obtain ⟨s0, hs0⟩ : ∃ s0, s0 = min H.length 11 := ⟨_, rfl⟩
      obtain ⟨s1, hs1⟩ : ∃ s1, s1 = min (H.length + 1) 11 := ⟨_, rfl⟩
      have hmn := min_is (P := Try.prog) ((s0 : Int) + 1) 11 (s1 : Int) (by omega)
      have hs11 : s0 ≤ 11 := by omega
      unfold winC at hI
      rw [← hs0] at hI
      rw [← hs1] at hstep
      have he := elev_length H
      generalize elev H = E at *
      obtain ⟨C, hC⟩ : ∃ C, C = (cellsW E s0).toArray := ⟨_, rfl⟩
      obtain ⟨cs, hcs⟩ : ∃ cs, cs = C.toList.take 10 := ⟨_, rfl⟩
      have hCl : C.size = 12 := by rw [hC]; simp [cellsW, he]
      have hcl : cs.length = 10 := by rw [hcs]; simp [hCl]
      have HSrc : Hid (∀ j v, cs[j]? = some v → wr.cell? ((⟨b, 0, none⟩ : Addr).add j) = some v) := Lib.hid (by
        intro j v hv
        have hj := (List.getElem?_eq_some_iff.1 hv).1
        rw [add_at, Nat.zero_add, hI.cell j, ← hv, ← hC, hcs, List.getElem?_take, if_pos (by omega), Array.getElem?_toList])
      have HOne : Hid (∀ v ∈ cs, v.oneCell' = true) := Lib.hid (by
        intro v hv
        rw [hcs, hC] at hv
        have := List.mem_of_mem_take hv
        simp [cellsW] at this
        rcases this with ⟨z, _, rfl⟩ | rfl <;> rfl)
      have HNew : Hid ((C.toList.take 1 ++ (cs ++ C.toList.drop 11)).toArray = (cellsW (E.headD 0 :: E.take 10) s0).toArray) := Lib.hid (by
        rw [hcs, hC, ← cellsW_move E s0 he, List.append_assoc])
      have HI := Lib.hid (show Has wr b C 32 by rw [hC]; exact hI)
      have HG := Lib.hid hg
      have HST := Lib.hid hstep
      have hE10 : (x :: E.take 10).length = 11 := by simp [he]
      have hE11 : (E.headD 0 :: E.take 10).length = 11 := by simp [he]
      generalize E.headD 0 = y at *
      generalize E.take 10 = F at *
      clear hI hg hcell hD hcut hs0 hs1 hcs hC hstep hx he
      go_wp2_with fail
      go_region_law (refine step_copy_row rfl (.tmp 22) (.tmp 26) 22 22 rfl 3 Try.underlying22 infoInt b 1 10 10 ⟨b, 0, none⟩ 11 11 (by simp [Act.eval, Act.put]) (by simp [Act.eval, Act.put]) C 32 HI.out cs hcl HSrc.out (by omega) HOne.out ?_)
      generalize hw2 : World.setRow _ _ _ = w2
      have hH2 : Has w2 b (cellsW (y :: F) s0).toArray 32 := by
        rw [← hw2, ← HNew.out]
        exact Has.row (w := wr.drew) HI.out _
      have hG2 : w.grownBy w2 (some b) := by rw [← hw2]; exact gb_setRow (gb_drewN HG.out 1) _
      clear hw2 HNew HSrc HOne HI HG hCl hcl c1
      have f0 := hH2.free 0
      have f11 := hH2.free 11
      have c0 : w2.cell? ⟨b, 0, none⟩ = some (.int .i64 y) := (hH2.cell 0).trans (cellsW_get (y :: F) _ 0 (by simp))
      have c11 := (hH2.cell 11).trans (cellsW_last _ _ hE11)
      have h3 := hH2.set (i := 0) (.int .i64 x)
      rw [cellsW_set0] at h3
      have h4 := h3.set (i := 11) (.int .i64 (s1 : Int))
      rw [cellsW_set11 _ _ _ hE10, ← HST.out.out] at h4
      have H4 := Lib.hid h4
      have G4 := Lib.hid (gb_setCell (gb_setCell hG2 0 (.int .i64 x)) 11 (.int .i64 (s1 : Int)))
      clear h3 h4 hG2 hH2 hE10 hE11 HST
      go_wp2_with fail
      go_roundw
      case rel => exact ⟨k + 1, by omega, by go_num, G4.out, H4.out⟩
      case measure => simp [intOf]; omega
    · obtain rfl : k = m := by omega
      rw [List.take_of_length_le (by omega)] at hI
      have HI := Lib.hid hI
      have HG := Lib.hid hg
      clear hI hg
      go_wp2_with fail
      go_end0
      exact ⟨rfl, HG.out, HI.out⟩
theorem last_take (l h : List Int) : ((l.drop (l.length - 11)).reverse ++ h).take 11 = (l.reverse ++ h).take 11 := by
  by_cases h1 : l.length ≤ 11
  · rw [show l.length - 11 = 0 by omega, List.drop_zero]
  · have e : l.reverse = (l.drop (l.length - 11)).reverse ++ (l.take (l.length - 11)).reverse := by
      rw [← List.reverse_append, List.take_append_drop]
    have hl : (l.drop (l.length - 11)).reverse.length = 11 := by simp; omega
    rw [e, List.append_assoc, List.take_left' hl, List.take_left' hl]
theorem push_at (b n cap lo hi : Nat) (p : Option Addr) (l h : List Int) (hl : l.length = n) (hc : n ≤ cap) (hmax : n < 4611686018427387904) (w : World) (hL : Lie w lo hi p l) (hb : b < lo ∨ hi ≤ b) (hs : hi ≤ w.heap.size)
    (hW : Has w b (winC h) 32) :
    Calls Try.prog 13 #[.pointer (some ⟨b, 0, none⟩), .slice p n cap] w fun r w' => r = .returned (.tuple #[]) ∧ w.grownBy w' (some b) ∧ Has w' b (winC (l.reverse ++ h)) 32 := by
  have := push_raw b n cap lo hi p l h hl hc hmax w hL hb hs hW
  rw [← hl, win_congr (last_take l h), hl] at this
  exact this
/-- the head of an array that lies at the head of a block, one cell an element -/
theorem arr_slice_h {P : Program} (k : IntKind) (t e n b h : Nat) (hu : P.underlying t = some (.array n e)) (hc : ∀ w, (sizeOf e).run P w = .ok 1 w) (h2 : h ≤ n) (w : World) :
    (Instr.sliceAt t (.pointer (some ⟨b, 0, none⟩)) none (some (.int k (h : Int))) none).run P w = .ok (.slice (some ⟨b, 0, none⟩) h n) w := by
  have ha : P.arrayLen t = n := by simp [Program.arrayLen, hu]
  have he : P.elem t = e := by simp [Program.elem, hu]
  rw [run_sliceAt_array_h w t ⟨b, 0, none⟩ (by rw [ha, he]; exact hu) k h (by omega) (by rw [ha]; omega), he, hc]
  simp [Result.andThen_ok, ha, slicedAt, Addr.add]
set_option maxRecDepth 100000 in
set_option maxHeartbeats 1000000 in
theorem times_nil (w : World) : Calls Try.prog 15 #[.pointer none] w fun r w' => r = .returned (.slice none 0 0) ∧ w' = w := by
  go_enter Try.func15, Try.ntmps15
  go_wp2_with fail
  go_ret
  exact ⟨rfl, rfl⟩
set_option maxRecDepth 100000 in
set_option maxHeartbeats 1000000 in
theorem times_at (b : Nat) (h : List Int) (w : World) (hW : Has w b (winC h) 32) :
    Calls Try.prog 15 #[.pointer (some ⟨b, 0, none⟩)] w fun r w' => ∃ p cap, r = .returned (.slice p (min h.length 11) cap) ∧ min h.length 11 ≤ cap ∧ Lie w' w.heap.size w'.heap.size p (h.take 11) ∧ Below w.heap.size w w' := by
  obtain ⟨s, hs⟩ : ∃ s, s = min h.length 11 := ⟨_, rfl⟩
  have c11 : w.cell? ⟨b, 11, none⟩ = some (.int .i64 (s : Int)) := by rw [hs]; exact (hW.cell 11).trans (cellsW_last _ _ (elev_length h))
  have hT : (elev h).take s = h.take 11 := by rw [hs]; exact elev_take h
  have HC : ∀ j, j < (elev h).length → w.drew.cell? ⟨b, 0 + j, none⟩ = some (.int .i64 ((elev h).getD j 0)) := fun j hj => by
    rw [Nat.zero_add]; exact (hW.cell j).trans (cellsW_get _ _ j hj)
  have hel := elev_length h
  have hs11 : s ≤ 11 := by omega
  have KC := Lib.hid (Try.slices_Clone_int b 0 s 11 (elev h) w.drew (by omega) (by omega) HC)
  rw [hT] at KC
  rw [← hs]
  have hsl := fun w => arr_slice_h (P := Try.prog) .i64 30 3 11 b s Try.underlying30 sizeInt hs11 w
  generalize elev h = E at *
  generalize h.take 11 = T at *
  clear hs hT hW hel HC
  go_enter Try.func15, Try.ntmps15
  go_wp2_with fail
  go_region_with ((go_at_call 18; (with_reducible refine KC.out.mono ?_); rintro e w1 ⟨v1, rfl, hown, hnn, hbel⟩; have HO := Lib.hid hown; have HB := Lib.hid hbel; clear hown hnn hbel))
  obtain ⟨p, cap, rfl, hc, hl, hL⟩ := lie_of_owns HO.out
  have HL := Lib.hid hL
  have HC := Lib.hid hc
  clear HO hL hc KC
  go_wp2_with fail
  go_ret
  exact ⟨p, cap, rfl, HC.out, HL.out, (Below.refl _ w).drew.trans HB.out⟩
set_option maxRecDepth 100000 in
set_option maxHeartbeats 1000000 in
theorem mid_none (w : World) : Calls Try.prog 16 #[.pointer none] w fun r w' => r = .returned (.int .i64 0) ∧ Below w.heap.size w w' := by
  go_enter Try.func16, Try.ntmps16
  go_wp2_with fail
  refine (times_nil _).mono ?_
  rintro r w1 ⟨rfl, rfl⟩
  go_wp2_with fail
  refine (of_none _ _ _).mono ?_
  rintro r w2 ⟨rfl, hB⟩
  go_wp2_with fail
  go_ret
  exact ⟨rfl, hB⟩
set_option maxRecDepth 100000 in
set_option maxHeartbeats 1000000 in
theorem mid_at (b : Nat) (h : List Int) (w : World) (hW : Has w b (winC h) 32) :
    Calls Try.prog 16 #[.pointer (some ⟨b, 0, none⟩)] w fun r w' => r = .returned (.int .i64 (mid h)) ∧ Below w.heap.size w w' := by
  have KT := Lib.hid (times_at b h w hW)
  have hm := mid_take h
  have hlen : (h.take 11).length = min h.length 11 := by simp; omega
  obtain ⟨s, hs⟩ : ∃ s, s = min h.length 11 := ⟨_, rfl⟩
  have hs11 : s ≤ 11 := by omega
  rw [← hs] at KT hlen
  rw [← hm]
  generalize h.take 11 = T at *
  obtain ⟨x, hx⟩ : ∃ x, x = mid T := ⟨_, rfl⟩
  rw [← hx]
  have HX := Lib.hid hx
  clear hm hs hW hx
  go_enter Try.func16, Try.ntmps16
  go_wp2_with fail
  refine KT.out.mono ?_
  rintro r w1 ⟨p, cap, rfl, hc, hL, hB⟩
  have KO := Lib.hid (of_at p s cap T hlen hc (by omega) w1 hL)
  rw [← HX.out] at KO
  clear hL KT hc HX
  go_wp2_with fail
  refine KO.out.mono ?_
  rintro r w2 ⟨rfl, hB2⟩
  go_wp2_with fail
  go_ret
  exact ⟨rfl, hB.trans (hB2.mono hB.size)⟩
/-- whether a time is late -/
def late (t : Int) (l : List Int) : Bool := l.isEmpty || decide (mid l < t)
set_option maxRecDepth 100000 in
set_option maxHeartbeats 1000000 in
theorem late_at (t : Int) (p : Option Addr) (n cap lo hi : Nat) (l : List Int) (hl : l.length = n) (hc : n ≤ cap) (hmax : n < 9223372036854775808) (w : World) (h : Lie w lo hi p l) :
    Calls Try.prog 12 #[.int .i64 t, .slice p n cap] w fun r w' => r = .returned (.bool (late t l)) ∧ Below w.heap.size w w' := by
  by_cases h0 : n = 0
  · subst h0
    obtain rfl := List.eq_nil_of_length_eq_zero hl
    have e : late t [] = true := rfl
    rw [e]
    clear e h hmax hl hc
    go_enter Try.func12, Try.ntmps12
    go_wp2_with fail
    go_ret
    exact ⟨rfl, Below.refl _ _⟩
  · have KO := Lib.hid (of_at p n cap l hl hc hmax w h)
    have e : late t l = decide (mid l < t) := by
      unfold late
      cases l with
      | nil => simp at hl; omega
      | cons a l => rfl
    rw [e]
    have d0 : ((n : Int) == 0) = false := by simp; omega
    generalize mid l = x at *
    clear e h hmax hl hc
    go_enter Try.func12, Try.ntmps12
    go_wp2_with fail
    refine KO.out.mono ?_
    rintro r w2 ⟨rfl, hB2⟩
    go_wp2_with fail
    go_ret
    exact ⟨rfl, hB2⟩
set_option maxRecDepth 100000 in
set_option maxHeartbeats 1000000 in
theorem near_at (t now future q : Int) (hq : q = IntKind.i64.wrap (t - now)) (w : World) :
    Calls Try.prog 17 #[.int .i64 t, .int .i64 now, .int .i64 future] w fun r w' => r = .returned (.bool (decide (0 ≤ future) && decide (q ≤ future))) ∧ w' = w := by
  by_cases h0 : 0 ≤ future
  · have hd : decide (0 ≤ future) = true := decide_eq_true h0
    rw [hd, Bool.true_and]
    have hq2 := hq.symm
    clear hq h0
    go_enter Try.func17, Try.ntmps17
    go_wp2_with fail
    go_ret
    exact ⟨rfl, rfl⟩
  · have hd : decide (0 ≤ future) = false := decide_eq_false h0
    rw [hd, Bool.false_and]
    clear hq h0
    go_enter Try.func17, Try.ntmps17
    go_wp2_with fail
    go_ret
    exact ⟨rfl, rfl⟩
end Go.Proofs.Ytmmpdalemifneaa
