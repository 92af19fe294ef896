/-
  scroll's Pen: Count, Names, Raw, Text.
-/
import Derived.Test.YtggnnlefalcplaaDoorScPut
import Derived.Test.YtggnnlefalcplaaDoorScNames
import Derived.Deep.MidRow
namespace Go.Proofs.YtggnnlefalcplaaDoor
open Go.RowKit Mem Sc
theorem IntsAt.new (w : World) {b : Nat} {v : Value} {l : List UInt8} (h : PenAt w b v l) (cs : Array Value) (ns : List Int) (t : TypeId) (hcs : cs = (ns.map (Value.int .i64)).toArray) : IntsAt (w.alloc (.cells cs t)) b v (some ⟨w.heap.size, 0, none⟩) ns := fun _ => by
  have hlt := h.lt
  refine ⟨w.heap.size, 0, rfl, by omega, fun e => by have := (h.ownLt e).2; omega, by rw [World.size_alloc]; omega, fun i hi => ?_⟩
  rw [(Has.new cs t).cell, hcs]
  simp [hi]
theorem nums_one (k : Nat) (x : Int) : nums k [x] = num k x := by simp [nums]
/-- one number is put -/
theorem put1 (b : Nat) (v : Value) (l : List UInt8) (size : Int) (m : Nat) (hm : near size 8 = m) (x : Int) (w : World) (h : PenAt w b v l) (hsz : l.length ≤ 70368744177600) :
    Calls Tryd.prog 16 #[.pointer (some ⟨b, 0, none⟩), .int .i64 size, .slice (some ⟨w.heap.size, 0, none⟩) 1 1] (w.alloc (.cells #[.int .i64 x] 3)) fun r w' => PenPost w b v (l ++ num m x) r w' := by
  subst hm
  have hb : Below w.heap.size w (w.alloc (.cells #[.int .i64 x] 3)) := (Below.refl _ _).alloc (Nat.le_refl _) _
  refine (put_at b v l size _ [x] 1 1 rfl _ (h.below hb) (IntsAt.new w h _ [x] _ rfl) (by omega)).mono ?_
  rintro r w' ⟨v', rfl, hP, hS⟩
  rw [nums_one] at hP
  exact ⟨v', rfl, hP, hS.below hb⟩
/-- .. where the world's size is spelt out -/
theorem put1_at (b : Nat) (v : Value) (l : List UInt8) (size : Int) (m : Nat) (hm : near size 8 = m) (x : Int) (w : World) (H : Nat) (hH : w.heap.size = H) (h : PenAt w b v l) (hsz : l.length ≤ 70368744177600) :
    Calls Tryd.prog 16 #[.pointer (some ⟨b, 0, none⟩), .int .i64 size, .slice (some ⟨H, 0, none⟩) 1 1] (w.alloc (.cells #[.int .i64 x] 3)) fun r w' => PenPost w b v (l ++ num m x) r w' := by
  subst hH; exact put1 b v l size m hm x w h hsz
theorem cnt_low (n : Int) (h : n < 253) : cnt n = num 1 (max n 0) := by
  unfold cnt
  by_cases h0 : n < 0
  · rw [if_pos h0, show max n 0 = 0 by omega]; rfl
  · rw [if_neg h0, if_pos h, show max n 0 = n by omega]
theorem cnt_2 (n : Int) (h1 : 253 ≤ n) (h2 : n ≤ 65535) : cnt n = num 1 253 ++ num 2 n := by
  unfold cnt
  rw [if_neg (by omega), if_neg (by omega), if_pos (by omega)]; rfl
theorem cnt_4 (n : Int) (h1 : 65535 < n) (h2 : n ≤ 4294967295) : cnt n = num 1 254 ++ num 4 n := by
  unfold cnt
  rw [if_neg (by omega), if_neg (by omega), if_neg (by omega), if_pos (by omega)]; rfl
theorem cnt_8 (n : Int) (h1 : 4294967295 < n) : cnt n = num 1 255 ++ num 8 n := by
  unfold cnt
  rw [if_neg (by omega), if_neg (by omega), if_neg (by omega), if_neg (by omega)]; rfl
theorem cnt_length (n : Int) : 1 ≤ (cnt n).length ∧ (cnt n).length ≤ 9 := by
  unfold cnt
  split
  · simp
  · split
    · simp [num_length]
    · split
      · simp [num_length]
      · split <;> simp [num_length]
/-- where the new slice lies, when a string's bytes are appended -/
theorem append_string_lies {P : Program} (w : World) (base : Nat) (t u ty e : TypeId) (i : TypeInfo) (ht : P.underlying t = some (.slice e)) (hu : P.underlying u = some .string) (hi : P.info? e = some i) (hz : i.zero = some (.int .u8 0))
    (hsize : i.size = 1) (hby : i.bytes = 1) (v : Value) (n : Nat) (xs : List Value) (hown : w.ownsRow base e 1 v n xs) (s : ByteArray) (hbytes : n + s.size ≤ 140737488355328) (v' : Value) (w' : World)
    (hr : (Builtin.append_ #[t, u] ty #[v, .string s]).run P w = .ok v' w') (hnil : v' = .slice none 0 0 ↔ v = .slice none 0 0 ∧ s.size = 0) : ∀ k, v'.ownBlock = some k → v.ownBlock = some k ∨ w.heap.size ≤ k := by
  intro k hk
  have hxl : xs.length = n := by simpa using hown.1
  rcases hown.2 with ⟨rfl, rfl⟩ | ⟨g, cap, cur, rfl, hbg, hg, hnc, hcm, hcs, htake⟩
  · by_cases hm : s.size = 0
    · rw [hnil.2 ⟨rfl, hm⟩] at hk; cases hk
    · have h := hr.symm.trans (run_append_nil_string (P := P) w t u ty e i (.int .u8 0) ht hu hi hz s (by omega) (by omega) (by rw [hby]; omega))
      injection h with h1 _
      rw [h1] at hk
      exact .inr (Nat.le_of_eq (Option.some.inj hk))
  · by_cases hroom : n + s.size ≤ cap
    · have hcs' : cur.size = cap := by simpa using hcs
      have h := hr.symm.trans (Lib.run_append_room_string (P := P) w t u ty e i ht hu hi hsize g n cap cur hg s hroom (by omega))
      injection h with h1 _
      rw [h1] at hk
      exact .inl hk
    · have holds : ∀ j u, xs[j]? = some u → w.cell? ((⟨g, 0, none⟩ : Addr).add j) = some u := hown.cells (g := g) rfl
      have h := hr.symm.trans (Lib.run_append_grow_string (P := P) w t u ty e i (.int .u8 0) ht hu hi hz ⟨g, 0, none⟩ n cap xs (by rw [hsize]; simpa using hxl) holds s (by omega) (by omega) (by rw [hby]; exact growslice_fits (by omega) (by omega)))
      injection h with h1 _
      rw [h1] at hk
      exact .inr (Nat.le_of_eq (Option.some.inj hk))
theorem ownsRow_slice {w : World} {base : Nat} {e : TypeId} {size : Nat} {v : Value} {n : Nat} {xs : List Value} (h : w.ownsRow base e size v n xs) : ∃ a m c, v = .slice a m c := by
  rcases h.2 with ⟨h, _⟩ | ⟨g, cap, cur, h, _⟩
  · exact ⟨_, _, _, h⟩
  · exact ⟨_, _, _, h⟩
theorem append_string_op {P : Program} {w : World} {ops : Array Oper} {rest : List Oper} {o : Oper} {a : Act} {Q : Exit → Act → World → Prop} (hgd : o.guard = none) (sl x : Operand) (t u : TypeId)
    (ho : o.op = .call { callee := .builtin .append, args := #[sl, x], argTypes := #[t, u] })
    (base : Nat) (e : TypeId) (i : TypeInfo) (ht : P.underlying t = some (.slice e)) (hu : P.underlying u = some .string) (hi : P.info? e = some i) (hz : i.zero = some (.int .u8 0))
    (hsize : i.size = 1) (hby : i.bytes = 1) (v : Value) (n : Nat) (xs : List Value) (hs : a.eval sl = v) (hown : w.ownsRow base e 1 v n xs) (s : ByteArray) (hx : a.eval x = .string s)
    (h63 : n + s.size ≤ maxLen) (hbytes : n + s.size ≤ 140737488355328) (hbase : base ≤ w.heap.size)
    (h : ∀ v' w', w'.ownsRow base e 1 v' (n + s.size) (xs ++ Lib.strCells s) → w.grownBy w' v.ownBlock → (∀ k, v'.ownBlock = some k → v.ownBlock = some k ∨ w.heap.size ≤ k) → wpList P ops Q rest (a.put o.dst v') w') : wpList P ops Q (o :: rest) a w := by
  refine wpList_plain hgd fun K hK => ?_
  obtain ⟨v', w', hr, h2, h3, h4⟩ := Lib.run_append_own_string (P := P) w base t u o.type e i ht hu hi hz hsize hby v n xs hown s h63 hbytes hbase
  have h5 := append_string_lies w base t u o.type e i ht hu hi hz hsize hby v n xs hown s hbytes v' w' hr h4
  unfold Oper.wp execOp
  simp only [ho, resolve, invoke, builtin, Sem.run_bind, Sem.run_pure, Result.andThen_ok, List.map_toArray, List.map_cons, List.map_nil, hs, hx, hr]
  exact hK _ _ (h v' w' h2 h3 h5)
set_option maxHeartbeats 400000 in
theorem praw_at (b : Nat) (v : Value) (l : List UInt8) (s : ByteArray) (w : World) (h : PenAt w b v l) (hsz : l.length + s.size ≤ 70368744177664) :
    Calls Tryd.prog 17 #[.pointer (some ⟨b, 0, none⟩), .string s] w fun r w' => PenPost w b v (l ++ s.data.toList) r w' := by
  obtain ⟨i, z, hi, hz, hi1, hi2, hi3⟩ := byte_info
  have hz0 : (Tryd.prog.info? 5).bind (·.zero) = some (.int .u8 0) := by kernel_rfl
  rw [hi] at hz0
  simp only [Option.bind_some] at hz0
  have c1 := h.c0
  have hne : some b ≠ v.ownBlock := fun e => by have := (h.ownLt e.symm).1; omega
  have hlt := h.lt
  have h63 : l.length + s.size ≤ maxLen := by unfold maxLen; omega
  clear hz hi3
  go_enter Tryd.func17, Tryd.ntmps17
  go_wp2_with ((with_reducible refine append_string_op rfl _ _ 43 9 rfl (b + 1) 5 i Tryd.underlying43 Tryd.underlying9 hi hz0 hi1 hi2 v l.length _ rfl h.own s rfl h63 (by omega) (by omega) ?_); intro v' w4 hown4 hgr4 hat4; obtain ⟨a5, n5, c5, rfl⟩ := ownsRow_slice hown4; have hc4 := gb_has hgr4 h.cell hne; have c4 := hc4.cell 0; have f4 := hc4.free 0)
  obtain ⟨hP5, hS5⟩ := h.put (x := s.data.toList) (Below.refl _ _) (by rw [← Lib.size_eq]; exact hown4) hgr4 hat4
  go_end0
  exact ⟨_, rfl, hP5, hS5⟩
end Go.Proofs.YtggnnlefalcplaaDoor
