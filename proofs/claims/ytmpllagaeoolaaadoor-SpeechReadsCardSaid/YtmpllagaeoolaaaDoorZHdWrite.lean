/-
  header: Write.
-/
import Derived.Test.YtmpllagaeoolaaaDoorZHdGood
import Derived.Test.YtmpllagaeoolaaaDoorZScPutL
namespace Go.Proofs.YtmpllagaeoolaaaDoor
open Go.RowKit Mem Sc
theorem foldl_size (o : Nat) : ∀ (l : List (Value × Nat)) (b : Array Value), (l.foldl (fun (cs : Array Value) (x : Value × Nat) => match x with | (c, j) => cs.setIfInBounds (o + j) c) b).size = b.size
  | [], _ => rfl
  | x :: l, b => by rw [List.foldl_cons, foldl_size o l]; simp
theorem fill_two (n : Nat) (z xs ys : Array Value) (hz : z.size = 2 * n) (hx : xs.size = n) (hy : ys.size = n) : Instr.fill (fun i => some (i * n, n)) z [(0, .agg xs), (1, .agg ys)] = some (xs ++ ys) := by
  have hsx : (Value.agg xs).cells.size = n := hx
  have hsy : (Value.agg ys).cells.size = n := hy
  unfold Instr.fill
  simp only [hsx, Nat.zero_mul, Nat.zero_add, hz]
  rw [if_neg (by simp; omega)]
  obtain ⟨f1, hf1⟩ : ∃ f1, f1 = (List.foldl (fun (cs : Array Value) (x : Value × Nat) => match x with | (c, j) => cs.setIfInBounds (0 + j) c) z (xs.toList.zipIdx 0)) := ⟨_, rfl⟩
  have e1 : ∀ j, f1[j]? = if j < n then xs[j]? else z[j]? := fun j => by
    have h := foldl_set 0 xs.toList 0 z j
    rw [hf1, h, Array.length_toList, hx, hz]
    by_cases hj : j < n
    · rw [if_pos ⟨by omega, by omega, by omega⟩, if_pos hj]; simp
    · rw [if_neg (by omega), if_neg hj]
  have s1 : f1.size = 2 * n := by rw [hf1, foldl_size, hz]
  have g1 : Array.foldl (fun cs x => cs.setIfInBounds x.snd x.fst) z (Value.agg xs).cells.zipIdx = f1 := by
    rw [hf1, ← Array.foldl_toList, Array.toList_zipIdx]
    simp only [Nat.zero_add]
    rfl
  rw [g1]
  unfold Instr.fill
  simp only [hsy, Nat.one_mul, s1]
  rw [if_neg (by simp; omega)]
  unfold Instr.fill
  congr 1
  apply Array.ext_getElem?
  intro j
  rw [← Array.foldl_toList, Array.toList_zipIdx]
  have h := foldl_set n ys.toList 0 f1 j
  show (List.foldl _ f1 (ys.toList.zipIdx 0))[j]? = _
  refine h.trans ?_
  rw [Array.length_toList, hy, s1, e1, Array.getElem?_append, hx]
  by_cases hj : j < n
  · rw [if_neg (by omega), if_pos hj, if_pos hj]
  · by_cases hj2 : j < 2 * n
    · rw [if_pos (by omega), if_neg hj]; simp
    · rw [if_neg (by omega), if_neg hj, if_neg hj, Array.getElem?_eq_none (by omega), Array.getElem?_eq_none (by omega)]
theorem bytesV_append (x y : List UInt8) : bytesV (x ++ y) = bytesV x ++ bytesV y := by simp [bytesV]
theorem build_name2 (x y : List UInt8) (hx : x.length = 32) (hy : y.length = 32) (w : World) : (Instr.buildSlice 22 2 #[(0, .agg (bytesV x)), (1, .agg (bytesV y))]).run Tryd.prog w = .ok (.slice (some ⟨w.heap.size, 0, none⟩) 2 2) (w.alloc (.cells (bytesV (x ++ y)) 24)) := by
  obtain ⟨i, z, hi, hz, h1, h2, h3⟩ := hash_info
  refine run_buildSlice w 22 24 2 _ (bytesV (x ++ y)) i z Tryd.underlying22 hi hz (by rw [h1]; decide) (by rw [h1]; decide) ?_
  rw [h1, bytesV_append]
  exact fill_two 32 _ _ _ (by simp) (hv_size hx) (hv_size hy)
theorem build_hl2 {ops : Array Oper} {rest : List Oper} {o : Oper} {a : Act} {w : World} {Q : Exit → Act → World → Prop} (hgd : o.guard = none) (p q : Operand) (ho : o.op = .buildSlice 22 2 #[(0, p), (1, q)]) (x y : List UInt8) (hp : a.eval p = .agg (bytesV x)) (hq : a.eval q = .agg (bytesV y)) (hx : x.length = 32) (hy : y.length = 32)
    (h : wpList Tryd.prog ops Q rest (a.put o.dst (.slice (some ⟨w.heap.size, 0, none⟩) 2 2)) (w.alloc (.cells (bytesV (x ++ y)) 24))) : wpList Tryd.prog ops Q (o :: rest) a w :=
  wpList_plain hgd fun _ hK => by
    unfold Oper.wp execOp
    simp only [ho, Sem.run_bind]
    rw [show (#[(0, p), (1, q)] : Array (Nat × Operand)).map (fun (i, x) => (i, a.eval x)) = #[(0, .agg (bytesV x)), (1, .agg (bytesV y))] by simp [hp, hq]]
    rw [build_name2 x y hx hy w]
    exact hK _ _ h
/-- another block of the same world is stored into -/
theorem PenAt.row_other {w : World} {b k : Nat} {v : Value} {l : List UInt8} (h : PenAt w b v l) (hk : k ≠ b) (hv : v.ownBlock ≠ some k) (cs : Array Value) : PenAt (w.setRow k cs) b v l :=
  ⟨Has.otherRow h.cell k cs (Ne.symm hk), h.own.kept (row := some k) ⟨rfl, rfl, rfl, by simp [World.setRow], fun j _ hn => setRow_other w k j cs (fun e => hn (by rw [e]))⟩ (.inr hv)⟩
/-- three numbers are put -/
theorem put3_at (b : Nat) (v : Value) (l : List UInt8) (x y z : Int) (w : World) (H : Nat) (hH : w.heap.size = H) (h : PenAt w b v l) (hsz : l.length ≤ 70368744177600) :
    Calls Tryd.prog 41 #[.pointer (some ⟨b, 0, none⟩), .int .i64 4, .slice (some ⟨H, 0, none⟩) 3 3] (w.alloc (.cells #[.int .i64 x, .int .i64 y, .int .i64 z] 3)) fun r w' => PenPost w b v (l ++ (num 4 x ++ (num 4 y ++ num 4 z))) r w' := by
  subst hH
  have hb : Below w.heap.size w (w.alloc (.cells #[.int .i64 x, .int .i64 y, .int .i64 z] 3)) := (Below.refl _ _).alloc (Nat.le_refl _) _
  refine (put_at b v l 4 _ [x, y, z] 3 3 rfl _ (h.below hb) (IntsAt.new w h _ [x, y, z] _ rfl) (by omega)).mono ?_
  rintro r w' ⟨v', rfl, hP, hS⟩
  have e : nums (near 4 8) [x, y, z] = num 4 x ++ (num 4 y ++ num 4 z) := by simp [nums]; rfl
  rw [e] at hP
  exact ⟨v', rfl, hP, hS.below hb⟩
/-- two names are put -/
theorem pname2_at (b : Nat) (v : Value) (l : List UInt8) (x y : List UInt8) (hx : x.length = 32) (hy : y.length = 32) (w : World) (H : Nat) (hH : w.heap.size = H) (h : PenAt w b v l) (hsz : l.length ≤ 70368744177600) :
    Calls Tryd.prog 43 #[.pointer (some ⟨b, 0, none⟩), .slice (some ⟨H, 0, none⟩) 2 2] (w.alloc (.cells (bytesV (x ++ y)) 24)) fun r w' => PenPost w b v (l ++ (x ++ y)) r w' := by
  subst hH
  have hlt := h.lt
  have hb : Below w.heap.size w (w.alloc (.cells (bytesV (x ++ y)) 24)) := (Below.refl _ _).alloc (Nat.le_refl _) _
  have hN : Has (w.alloc (.cells (bytesV (x ++ y)) 24)) w.heap.size (bytesV (x ++ y)) 24 := Has.new _ _
  refine (pnames_at b v l _ [x, y] 2 2 rfl _ (h.below hb) (fun _ => ⟨w.heap.size, 0, rfl, by rw [World.size_alloc]; omega, fun i hi => ?_⟩) (fun _ p hp => ?_) (fun z hz => by simp at hz; rcases hz with rfl | rfl; exact hx; exact hy) (by omega)).mono ?_
  · have h2 : i < 2 := hi
    obtain rfl | rfl : i = 0 ∨ i = 1 := by omega
    · refine ⟨hx, fun j u hu => ?_⟩
      rw [hN.cell]
      change (Lib.byteCells x)[j]? = some u at hu
      rw [show bytesV (x ++ y) = (Lib.byteCells (x ++ y)).toArray from Array.toList_inj.1 (by rw [bytesV_list]), Lib.byteCells_append, List.getElem?_toArray, show 0 + 0 * 32 + j = j by omega,
        List.getElem?_append_left (List.getElem?_eq_some_iff.1 hu).1]
      exact hu
    · refine ⟨hy, fun j u hu => ?_⟩
      rw [hN.cell]
      change (Lib.byteCells y)[j]? = some u at hu
      rw [show bytesV (x ++ y) = (Lib.byteCells (x ++ y)).toArray from Array.toList_inj.1 (by rw [bytesV_list]), Lib.byteCells_append, List.getElem?_toArray, show 0 + 1 * 32 + j = 32 + j by omega,
        List.getElem?_append_right (by rw [Lib.byteCells_length, hx]; omega), Lib.byteCells_length, hx, Nat.add_sub_cancel_left]
      exact hu
  · obtain rfl := Option.some.inj hp
    exact ⟨by show w.heap.size ≠ b; omega, fun e => absurd (h.ownLt (k := w.heap.size) e).2 (by omega)⟩
  · rintro r w' ⟨v', rfl, hP, hS⟩
    have e : [x, y].flatten = x ++ y := by simp
    rw [e] at hP
    exact ⟨v', rfl, hP, hS.below hb⟩
theorem own_apart {w w1 : World} {b k : Nat} {v v1 : Value} (hS : PenStep w w1 b v v1) (hk : k < w.heap.size) (hv : v.ownBlock ≠ some k) : v1.ownBlock ≠ some k := fun e => by
  rcases hS.lies k e with h | h
  · exact hv h
  · omega
theorem enc_put (l : List UInt8) (h : Hd) : l ++ num 4 h.v ++ (h.prev ++ h.root) ++ (num 4 h.time ++ (num 4 h.bits ++ num 4 h.nonce)) = l ++ h.enc := by
  simp only [Hd.enc, List.append_assoc]
set_option maxRecDepth 100000 in
set_option maxHeartbeats 1000000 in
theorem write_yes (b : Nat) (v : Value) (l : List UInt8) (h : Hd) (ho : h.ok) (hp : h.P) (w : World) (hP : PenAt w b v l) (hsz : l.length ≤ 70368744177000) :
    Calls Tryd.prog 44 #[.pointer (some ⟨b, 0, none⟩), .agg (hdA h)] w fun r w' => PenPost w b v (l ++ h.enc) r w' := by
  have CG := good_at h ho
  rw [decide_eq_true hp] at CG
  have KG := Lib.hid CG
  clear CG hp
  have hH := hd_new w h
  have hB : Below w.heap.size w (w.alloc (.cells (hdA h) 48)) := (Below.refl _ _).alloc (Nat.le_refl _) _
  have hP1 := hP.below hB
  have hbk : w.heap.size ≠ b := by have := hP.lt; omega
  have hvk : v.ownBlock ≠ some w.heap.size := fun e => by have := (hP.ownLt e).2; omega
  have hz := hdA_size ho
  clear hP
  go_enter Tryd.func44, Tryd.ntmps44
  go_upto_region 1 with fail
  generalize hk : w.heap.size = k at hH hbk hvk ⊢
  generalize World.alloc _ _ = w1 at *
  go_wp2_with (with_reducible refine hd_load rfl _ rfl _ rfl hH hz ?_)
  refine (KG.out _).mono ?_
  rintro r w2 ⟨rfl, hb2⟩
  have hP2 := hP1.below hb2
  replace hB := hB.trans (hb2.mono hB.size)
  replace hH := hH.on hb2
  clear hb2 hP1 KG
  have hH3 := hH
  have hP3 := hP2
  obtain ⟨w3, hw3⟩ : ∃ w3, w3 = w2 := ⟨_, rfl⟩
  obtain ⟨h', hh'⟩ : ∃ h', h' = h := ⟨_, rfl⟩
  have HE : Hid (h'.enc = h.enc) := Lib.hid (by rw [hh'])
  rw [← hh'] at hH3 ho ⊢
  rw [← hw3] at hB hH3 hP3 ⊢
  have ho' := ho
  clear hH hP2 ho hz hh' hw3
  have hk3 : k < w3.heap.size := hH3.lt
  have c0 := hH3.v
  have C1 := Lib.hid (put1_at b v l 4 4 rfl h'.v w3 w3.heap.size rfl hP3 (by omega))
  go_wp2_with fail
  refine C1.out.mono ?_
  rintro r w4 ⟨v4, rfl, hP4, hS4⟩
  have hH4 := hH3.pen hS4 (Ne.symm hbk).symm hvk
  have hv4 := own_apart hS4 hk3 hvk
  have hk4 : k < w4.heap.size := hH4.lt
  clear C1 c0 hH3 hP3
  have e4 : (l ++ num 4 h'.v).length ≤ 70368744177100 := by rw [List.length_append, num_length]; omega
  have r1 := hH4.prev
  have r2 := hH4.root ho'
  have s1 := byteCells_32 ho'.1
  have s2 := byteCells_32 ho'.2
  have C2 := Lib.hid (pname2_at b v4 _ h'.prev h'.root ho'.1 ho'.2 w4 w4.heap.size rfl hP4 (by omega))
  have H1 := Lib.hid ho'.1
  have H2 := Lib.hid ho'.2
  go_wp2_with (first
    | (with_reducible refine hl_load_mid rfl _ rfl k 1 rfl h'.prev r1 s1 ?_)
    | (with_reducible refine hl_load_mid rfl _ rfl k 33 rfl h'.root r2 s2 ?_)
    | (with_reducible refine build_hl2 rfl _ _ rfl _ _ rfl rfl H1.out H2.out ?_))
  refine C2.out.mono ?_
  rintro r w5 ⟨v5, rfl, hP5, hS5⟩
  have hH5 := hH4.pen hS5 hbk hv4
  clear C2 r1 r2 s1 s2 hH4 hP4
  have e5 : (l ++ num 4 h'.v ++ (h'.prev ++ h'.root)).length ≤ 70368744177500 := by
    simp only [List.length_append, H1.out, H2.out] at e4 ⊢; omega
  have c1 := hH5.time ho'
  have c2 := hH5.bits ho'
  have c3 := hH5.nonce ho'
  have C3 := Lib.hid (put3_at b v5 _ h'.time h'.bits h'.nonce w5 w5.heap.size rfl hP5 (by omega))
  rw [enc_put] at C3
  go_wp2_with fail
  refine C3.out.mono ?_
  rintro r w6 ⟨v6, rfl, hP6, hS6⟩
  go_wp2_with fail
  go_end0
  exact ⟨v6, rfl, by rw [← HE.out]; exact hP6, ((hS4.trans hS5).trans hS6).below hB⟩

set_option maxRecDepth 100000 in
set_option maxHeartbeats 1000000 in
theorem write_no (b : Nat) (v : Value) (l : List UInt8) (h : Hd) (ho : h.ok) (hp : ¬ h.P) (w : World) (hP : PenAt w b v l) (hsz : l.length ≤ 70368744177000) :
    Calls Tryd.prog 44 #[.pointer (some ⟨b, 0, none⟩), .agg (hdA h)] w fun r w' => PenPost w b v (l ++ hdZ.enc) r w' := by
  have CG := good_at h ho
  rw [decide_eq_false hp] at CG
  have KG := Lib.hid CG
  clear CG hp
  have hH := hd_new w h
  have hB : Below w.heap.size w (w.alloc (.cells (hdA h) 48)) := (Below.refl _ _).alloc (Nat.le_refl _) _
  have hP1 := hP.below hB
  have hbk : w.heap.size ≠ b := by have := hP.lt; omega
  have hvk : v.ownBlock ≠ some w.heap.size := fun e => by have := (hP.ownLt e).2; omega
  have hz := hdA_size ho
  clear hP
  go_enter Tryd.func44, Tryd.ntmps44
  go_upto_region 1 with fail
  generalize hk : w.heap.size = k at hH hbk hvk ⊢
  generalize World.alloc _ _ = w1 at *
  go_wp2_with (with_reducible refine hd_load rfl _ rfl _ rfl hH hz ?_)
  refine (KG.out _).mono ?_
  rintro r w2 ⟨rfl, hb2⟩
  have hP2 := hP1.below hb2
  replace hB := hB.trans (hb2.mono hB.size)
  replace hH := hH.on hb2
  clear hb2 hP1 KG
  obtain ⟨h', hh'⟩ : ∃ h', h' = hdZ := ⟨_, rfl⟩
  have ho' : h'.ok := by rw [hh']; exact hdZ_ok
  have hz' := hdA_size ho'
  have hlit : hdA hdZ = hdA h' := by rw [hh']
  have HLIT := Lib.hid hlit
  have HE : Hid (h'.enc = hdZ.enc) := Lib.hid (by rw [hh'])
  clear hlit hh'
  go_upto_region 3 with (with_reducible refine hd_store rfl _ _ rfl _ _ h' rfl rfl HLIT.out hz' hH hz ?_)
  have hH3 : HdAt (w2.setRow k (hdA h')) k h' := Has.row hH _
  have hb3 : Below w.heap.size w2 (w2.setRow k (hdA h')) := below_setRow (Below.refl _ _) (by omega) _
  have hP3 : PenAt (w2.setRow k (hdA h')) b v l := PenAt.row_other hP2 hbk hvk _
  replace hB := below_setRow hB (show w.heap.size ≤ k by omega) (hdA h')
  generalize w2.setRow k (hdA h') = w3 at *
  clear hH hP2 ho hz HLIT hb3
  have hk3 : k < w3.heap.size := hH3.lt
  have c0 := hH3.v
  have C1 := Lib.hid (put1_at b v l 4 4 rfl h'.v w3 w3.heap.size rfl hP3 (by omega))
  go_wp2_with fail
  refine C1.out.mono ?_
  rintro r w4 ⟨v4, rfl, hP4, hS4⟩
  have hH4 := hH3.pen hS4 (Ne.symm hbk).symm hvk
  have hv4 := own_apart hS4 hk3 hvk
  have hk4 : k < w4.heap.size := hH4.lt
  clear C1 c0 hH3 hP3
  have e4 : (l ++ num 4 h'.v).length ≤ 70368744177100 := by rw [List.length_append, num_length]; omega
  have r1 := hH4.prev
  have r2 := hH4.root ho'
  have s1 := byteCells_32 ho'.1
  have s2 := byteCells_32 ho'.2
  have C2 := Lib.hid (pname2_at b v4 _ h'.prev h'.root ho'.1 ho'.2 w4 w4.heap.size rfl hP4 (by omega))
  have H1 := Lib.hid ho'.1
  have H2 := Lib.hid ho'.2
  go_wp2_with (first
    | (with_reducible refine hl_load_mid rfl _ rfl k 1 rfl h'.prev r1 s1 ?_)
    | (with_reducible refine hl_load_mid rfl _ rfl k 33 rfl h'.root r2 s2 ?_)
    | (with_reducible refine build_hl2 rfl _ _ rfl _ _ rfl rfl H1.out H2.out ?_))
  refine C2.out.mono ?_
  rintro r w5 ⟨v5, rfl, hP5, hS5⟩
  have hH5 := hH4.pen hS5 hbk hv4
  clear C2 r1 r2 s1 s2 hH4 hP4
  have e5 : (l ++ num 4 h'.v ++ (h'.prev ++ h'.root)).length ≤ 70368744177500 := by
    simp only [List.length_append, H1.out, H2.out] at e4 ⊢; omega
  have c1 := hH5.time ho'
  have c2 := hH5.bits ho'
  have c3 := hH5.nonce ho'
  have C3 := Lib.hid (put3_at b v5 _ h'.time h'.bits h'.nonce w5 w5.heap.size rfl hP5 (by omega))
  rw [enc_put] at C3
  go_wp2_with fail
  refine C3.out.mono ?_
  rintro r w6 ⟨v6, rfl, hP6, hS6⟩
  go_wp2_with fail
  go_end0
  exact ⟨v6, rfl, by rw [← HE.out]; exact hP6, ((hS4.trans hS5).trans hS6).below hB⟩

theorem write_at (b : Nat) (v : Value) (l : List UInt8) (h : Hd) (ho : h.ok) (w : World) (hP : PenAt w b v l) (hsz : l.length ≤ 70368744177000) :
    Calls Tryd.prog 44 #[.pointer (some ⟨b, 0, none⟩), .agg (hdA h)] w fun r w' => PenPost w b v (l ++ h.wr) r w' := by
  by_cases hp : h.P
  · rw [Hd.wr_yes hp]; exact write_yes b v l h ho hp w hP hsz
  · rw [Hd.wr_no hp]; exact write_no b v l h ho hp w hP hsz
end Go.Proofs.YtmpllagaeoolaaaDoor
