/-
  Texts of this seat, one behind the other.
-/
import Derived.Test.YtomegahohiijcaaDoorBunQ9
import Derived.Test.YtomegahohiijcaaDoorZScNames
import Derived.Deep.MidRow
import Derived.Test.YtomegahohiijcaaDoorBunQ8
/-
  scroll's Pen: Count, Names, Raw, Text.
-/
namespace Go.Proofs.YtomegahohiijcaaDoor
open Go.RowKit Mem Sc
theorem IntsAt.new (w : World) {b : Nat} {v : Value} {l : List UInt8} (h : PenAt w b v l) (cs : Array Value) (ns : List Int) (t : TypeId) (hcs : cs = (ns.map (Value.int .i64)).toArray) : IntsAt (w.alloc (.cells cs t)) b v (some ⟨w.heap.size, 0, none⟩) ns := fun _ => by
  have hlt := h.lt
  refine ⟨w.heap.size, 0, rfl, by omega, fun e => by have := (h.ownLt e).2; omega, by rw [World.size_alloc]; omega, fun i hi => ?_⟩
  rw [(Has.new cs t).cell, hcs]
  simp [hi]
theorem nums_one (k : Nat) (x : Int) : nums k [x] = num k x := by simp [nums]
/-- one number is put -/
theorem put1 (b : Nat) (v : Value) (l : List UInt8) (size : Int) (m : Nat) (hm : near size 8 = m) (x : Int) (w : World) (h : PenAt w b v l) (hsz : l.length ≤ 70368744177600) :
    Calls Tryd.prog 19 #[.pointer (some ⟨b, 0, none⟩), .int .i64 size, .slice (some ⟨w.heap.size, 0, none⟩) 1 1] (w.alloc (.cells #[.int .i64 x] 3)) fun r w' => PenPost w b v (l ++ num m x) r w' := by
  subst hm
  have hb : Below w.heap.size w (w.alloc (.cells #[.int .i64 x] 3)) := (Below.refl _ _).alloc (Nat.le_refl _) _
  refine (put_at b v l size _ [x] 1 1 rfl _ (h.below hb) (IntsAt.new w h _ [x] _ rfl) (by omega)).mono ?_
  rintro r w' ⟨v', rfl, hP, hS⟩
  rw [nums_one] at hP
  exact ⟨v', rfl, hP, hS.below hb⟩
/-- .. where the world's size is spelt out -/
theorem put1_at (b : Nat) (v : Value) (l : List UInt8) (size : Int) (m : Nat) (hm : near size 8 = m) (x : Int) (w : World) (H : Nat) (hH : w.heap.size = H) (h : PenAt w b v l) (hsz : l.length ≤ 70368744177600) :
    Calls Tryd.prog 19 #[.pointer (some ⟨b, 0, none⟩), .int .i64 size, .slice (some ⟨H, 0, none⟩) 1 1] (w.alloc (.cells #[.int .i64 x] 3)) fun r w' => PenPost w b v (l ++ num m x) r w' := by
  subst hH; exact put1 b v l size m hm x w h hsz
theorem cnt_low (n : Int) (h : n < 253) : cnt n = num 1 (max n 0) := by
  unfold cnt
  by_cases h0 : n < 0
  · rw [if_pos h0, show max n 0 = 0 by omega]; rfl
  · rw [if_neg h0, if_pos h, show max n 0 = n by omega]
theorem cnt_2 (n : Int) (h1 : 253 ≤ n) (h2 : n ≤ 65535) : cnt n = num 1 253 ++ num 2 n := by
  unfold cnt
  rw [if_neg (by omega), if_neg (by omega), if_pos (by omega)]; rfl
theorem cnt_4 (n : Int) (h1 : 65535 < n) (h2 : n ≤ 4294967295) : cnt n = num 1 254 ++ num 4 n := by
  unfold cnt
  rw [if_neg (by omega), if_neg (by omega), if_neg (by omega), if_pos (by omega)]; rfl
theorem cnt_8 (n : Int) (h1 : 4294967295 < n) : cnt n = num 1 255 ++ num 8 n := by
  unfold cnt
  rw [if_neg (by omega), if_neg (by omega), if_neg (by omega), if_neg (by omega)]; rfl
theorem cnt_length (n : Int) : 1 ≤ (cnt n).length ∧ (cnt n).length ≤ 9 := by
  unfold cnt
  split
  · simp
  · split
    · simp [num_length]
    · split
      · simp [num_length]
      · split <;> simp [num_length]
/-- where the new slice lies, when a string's bytes are appended -/
theorem append_string_lies {P : Program} (w : World) (base : Nat) (t u ty e : TypeId) (i : TypeInfo) (ht : P.underlying t = some (.slice e)) (hu : P.underlying u = some .string) (hi : P.info? e = some i) (hz : i.zero = some (.int .u8 0))
    (hsize : i.size = 1) (hby : i.bytes = 1) (v : Value) (n : Nat) (xs : List Value) (hown : w.ownsRow base e 1 v n xs) (s : ByteArray) (hbytes : n + s.size ≤ 140737488355328) (v' : Value) (w' : World)
    (hr : (Builtin.append_ #[t, u] ty #[v, .string s]).run P w = .ok v' w') (hnil : v' = .slice none 0 0 ↔ v = .slice none 0 0 ∧ s.size = 0) : ∀ k, v'.ownBlock = some k → v.ownBlock = some k ∨ w.heap.size ≤ k := by
  intro k hk
  have hxl : xs.length = n := by simpa using hown.1
  rcases hown.2 with ⟨rfl, rfl⟩ | ⟨g, cap, cur, rfl, hbg, hg, hnc, hcm, hcs, htake⟩
  · by_cases hm : s.size = 0
    · rw [hnil.2 ⟨rfl, hm⟩] at hk; cases hk
    · have h := hr.symm.trans (run_append_nil_string (P := P) w t u ty e i (.int .u8 0) ht hu hi hz s (by omega) (by omega) (by rw [hby]; omega))
      injection h with h1 _
      rw [h1] at hk
      exact .inr (Nat.le_of_eq (Option.some.inj hk))
  · by_cases hroom : n + s.size ≤ cap
    · have hcs' : cur.size = cap := by simpa using hcs
      have h := hr.symm.trans (Lib.run_append_room_string (P := P) w t u ty e i ht hu hi hsize g n cap cur hg s hroom (by omega))
      injection h with h1 _
      rw [h1] at hk
      exact .inl hk
    · have holds : ∀ j u, xs[j]? = some u → w.cell? ((⟨g, 0, none⟩ : Addr).add j) = some u := hown.cells (g := g) rfl
      have h := hr.symm.trans (Lib.run_append_grow_string (P := P) w t u ty e i (.int .u8 0) ht hu hi hz ⟨g, 0, none⟩ n cap xs (by rw [hsize]; simpa using hxl) holds s (by omega) (by omega) (by rw [hby]; exact growslice_fits (by omega) (by omega)))
      injection h with h1 _
      rw [h1] at hk
      exact .inr (Nat.le_of_eq (Option.some.inj hk))
theorem ownsRow_slice {w : World} {base : Nat} {e : TypeId} {size : Nat} {v : Value} {n : Nat} {xs : List Value} (h : w.ownsRow base e size v n xs) : ∃ a m c, v = .slice a m c := by
  rcases h.2 with ⟨h, _⟩ | ⟨g, cap, cur, h, _⟩
  · exact ⟨_, _, _, h⟩
  · exact ⟨_, _, _, h⟩
theorem append_string_op {P : Program} {w : World} {ops : Array Oper} {rest : List Oper} {o : Oper} {a : Act} {Q : Exit → Act → World → Prop} (hgd : o.guard = none) (sl x : Operand) (t u : TypeId)
    (ho : o.op = .call { callee := .builtin .append, args := #[sl, x], argTypes := #[t, u] })
    (base : Nat) (e : TypeId) (i : TypeInfo) (ht : P.underlying t = some (.slice e)) (hu : P.underlying u = some .string) (hi : P.info? e = some i) (hz : i.zero = some (.int .u8 0))
    (hsize : i.size = 1) (hby : i.bytes = 1) (v : Value) (n : Nat) (xs : List Value) (hs : a.eval sl = v) (hown : w.ownsRow base e 1 v n xs) (s : ByteArray) (hx : a.eval x = .string s)
    (h63 : n + s.size ≤ maxLen) (hbytes : n + s.size ≤ 140737488355328) (hbase : base ≤ w.heap.size)
    (h : ∀ v' w', w'.ownsRow base e 1 v' (n + s.size) (xs ++ Lib.strCells s) → w.grownBy w' v.ownBlock → (∀ k, v'.ownBlock = some k → v.ownBlock = some k ∨ w.heap.size ≤ k) → wpList P ops Q rest (a.put o.dst v') w') : wpList P ops Q (o :: rest) a w := by
  refine wpList_plain hgd fun K hK => ?_
  obtain ⟨v', w', hr, h2, h3, h4⟩ := Lib.run_append_own_string (P := P) w base t u o.type e i ht hu hi hz hsize hby v n xs hown s h63 hbytes hbase
  have h5 := append_string_lies w base t u o.type e i ht hu hi hz hsize hby v n xs hown s hbytes v' w' hr h4
  unfold Oper.wp execOp
  simp only [ho, resolve, invoke, builtin, Sem.run_bind, Sem.run_pure, Result.andThen_ok, List.map_toArray, List.map_cons, List.map_nil, hs, hx, hr]
  exact hK _ _ (h v' w' h2 h3 h5)
end Go.Proofs.YtomegahohiijcaaDoor
/-
  scroll's Pen: Names, Text.
-/
namespace Go.Proofs.YtomegahohiijcaaDoor
open Go.RowKit Mem Sc
/-- names lie where a slice says -/
def NamesAt (w : World) (a : Option Addr) (ls : List (List UInt8)) : Prop :=
  0 < ls.length → ∃ ab ao, a = some ⟨ab, ao, none⟩ ∧ ab < w.heap.size ∧ ∀ i (hi : i < ls.length), ls[i].length = 32 ∧ w.rangeAt ab (ao + i * 32) (Lib.byteCells ls[i])
/-- .. apart from a pen -/
def Apart (b : Nat) (v : Value) (a : Option Addr) : Prop := ∀ p, a = some p → p.block ≠ b ∧ v.ownBlock ≠ some p.block
theorem names_take (ls : List (List UInt8)) (k : Nat) (hk : k < ls.length) : (ls.take (k + 1)).flatten = (ls.take k).flatten ++ ls[k] := by
  rw [List.take_succ_eq_append_getElem hk, List.flatten_append]; simp
theorem flatten_le (ls : List (List UInt8)) (h : ∀ x ∈ ls, x.length = 32) (k : Nat) : (ls.take k).flatten.length ≤ 32 * k := by
  rw [List.length_flatten]
  have : ∀ (m : List (List UInt8)), (∀ x ∈ m, x.length = 32) → (m.map List.length).sum = 32 * m.length := by
    intro m hm
    induction m with
    | nil => rfl
    | cons x m ih =>
      simp only [List.map_cons, List.sum_cons, List.length_cons]
      rw [ih (fun y hy => hm y (by simp [hy])), hm x (by simp)]; omega
  rw [this _ (fun x hx => h x (List.mem_of_mem_take hx)), List.length_take]
  exact Nat.mul_le_mul_left _ (Nat.min_le_left _ _)
set_option maxRecDepth 100000 in
set_option maxHeartbeats 1000000 in
theorem pnames_at (b : Nat) (v : Value) (l : List UInt8) (a : Option Addr) (ls : List (List UInt8)) (n c : Nat) (hn : n = ls.length) (w : World) (h : PenAt w b v l) (hA : NamesAt w a ls) (hap : 0 < ls.length → Apart b v a) (h32 : ∀ x ∈ ls, x.length = 32) (hsz : l.length + 32 * n ≤ 70368744177664) :
    Calls Tryd.prog 20 #[.pointer (some ⟨b, 0, none⟩), .slice a n c] w fun r w' => PenPost w b v (l ++ ls.flatten) r w' := by
  have HN := Lib.hid hn
  have HA := Lib.hid hA
  have HP := Lib.hid hap
  have H32 := Lib.hid h32
  clear hn hA hap h32
  go_enter Tryd.func20, Tryd.ntmps20
  go_wp2_with fail
  go_loopw [10] (fun i wr => ∃ (k : Nat) (v1 : Value), k ≤ n ∧ i = .int .i64 k ∧ PenAt wr b v1 (l ++ (ls.take k).flatten) ∧ PenStep w wr b v v1) (fun i _ => n - (intOf i).toNat)
  case atStart => exact ⟨0, v, Nat.zero_le _, rfl, by simpa using h, PenStep.refl _ _ _⟩
  case round =>
    obtain ⟨k, v1, hk, rfl, hP, hS⟩ := hrel
    by_cases hlt : k < n
    · have hkl : k < ls.length := by rw [← HN.out]; exact hlt
      obtain ⟨ab, ao, rfl, habl, hc⟩ := HA.out (by omega)
      obtain ⟨hab, hav⟩ := HP.out (by omega) _ rfl
      obtain ⟨hx32, hcx⟩ := hc k hkl
      have hr : wr.rangeAt ab (ao + k * 32) (Lib.byteCells ls[k]) := fun j u hu => (hS.cell (a := ⟨ab, ao + k * 32 + j, none⟩) habl hab hav).trans (hcx j u hu)
      have hnx := names_take ls k hkl
      have hle := flatten_le ls H32.out k
      generalize ls[k] = x at *
      have hsx : (Lib.byteCells x).length = 32 := by rw [Lib.byteCells_length, hx32]
      have HX := Lib.hid hsx
      have HNX := Lib.hid hnx
      clear hsx hc hcx hnx
      obtain ⟨i, z, hi, hz, hi1, hi2, hi3⟩ := byte_info
      have hone := bytesV_one x
      have hsz32 : (bytesV x).size = 32 := hv_size hx32
      have h0s : h0.size = 32 := rfl
      obtain ⟨L, hL⟩ : ∃ L, L = l ++ (ls.take k).flatten := ⟨_, rfl⟩
      have hLn : L.length + 32 ≤ 70368744177664 := by rw [hL]; simp only [List.length_append]; omega
      rw [← hL] at hP
      have hnew : l ++ (ls.take (k + 1)).flatten = L ++ x := by rw [HNX.out, ← List.append_assoc, ← hL]
      have HNEW := Lib.hid hnew
      clear hL hnew HNX
      have hP0 := hP.c0
      have HS := Lib.hid hsz32
      have H0 := Lib.hid h0s
      have HX32 := Lib.hid hx32
      clear hsz32 h0s hx32
      go_wp2_with (first
        | (with_reducible refine hl_load_mid rfl _ rfl ab (ao + k * 32) rfl x hr HX.out ?_)
        | (with_reducible refine hl_store rfl _ _ rfl _ _ (bytesV x) rfl rfl rfl HS.out hone h0 (h0_new _ _) H0.out ?_))
      generalize hw3 : World.setRow _ _ _ = w3
      have hX3 : Has w3 wr.heap.size (bytesV x) 25 := by rw [← hw3]; exact (h0_new _ _).row _
      have hB3 : Below wr.heap.size wr w3 := by rw [← hw3]; exact below_setRow ((Below.refl _ _).alloc (Nat.le_refl _) _) (Nat.le_refl _) _
      clear hw3
      have hP3 := hP.below hB3
      have c1 := hP3.c0
      have hne : some b ≠ v1.ownBlock := fun e => by have := (hP3.ownLt e.symm).1; omega
      have hPl := hP3.lt
      have h63 : L.length + 32 ≤ maxLen := by unfold maxLen; omega
      have hby : (L.length + 32) * 1 ≤ 140737488355328 := by omega
      have hbase : b + 1 ≤ w3.drew.heap.size := by show b + 1 ≤ w3.heap.size; omega
      have hnl : (Lib.byteCells x).length = 32 * 1 := HX.out
      have hnews : ∀ j u, (Lib.byteCells x)[j]? = some u → w3.drew.cell? ((⟨wr.heap.size, 0, none⟩ : Addr).add j) = some u := by
        rw [← bytesV_list]; exact World.news_of_block (Has.drew hX3).out
      have HNL := Lib.hid hnl
      have HNW := Lib.hid hnews
      clear hnl hnews
      go_region_law
        ((refine step_append_lies _ (by rfl) _ _ 52 (by rfl) (b + 1) 5 i z 1 1 Tryd.underlying52 hi hz hi1 hi2 hi3 (by decide) v1 L.length (Lib.byteCells L) (by rfl) hP3.own.drew
              ⟨wr.heap.size, 0, none⟩ 32 32 (Lib.byteCells x) (by rfl) HNL.out HNW.out (Lib.byteCells_one _) (by decide) h63 hby hbase w3.heap.size (by rfl) ?_; intro g cap w4 hown4 hgr4 hat4 hlt4; have hc4 := gb_has hgr4 hP3.cell.drew hne; have c4 := hc4.cell 0; have f4 := hc4.free 0))
      all_goals
        have hBd : Below wr.heap.size wr w3.drew := hB3.drew
        obtain ⟨hP5, hS5⟩ := hP.put (x := x) hBd (by rw [HX32.out]; exact hown4) hgr4 (fun k' hk' => by
          rcases hat4 with e | e
          · exact .inl (e.trans hk')
          · obtain rfl : g = k' := Option.some.inj hk'
            have := hB3.size
            exact .inr (by omega))
        go_wp2_with fail
        go_roundw
        case rel => exact ⟨k + 1, _, by omega, by go_num, by rw [HNEW.out]; exact hP5, hS.trans hS5⟩
        case measure => simp [intOf]; omega
    · obtain rfl : k = n := by omega
      rw [HN.out, List.take_length] at hP
      go_wp2_with fail
      go_end0
      exact ⟨v1, rfl, hP, hS⟩
/-- a slice of bytes that is owned, as a text -/
theorem conv_owned {w : World} {base : Nat} {v : Value} {l : List UInt8} (h : w.ownsRow base 5 1 v l.length (Lib.byteCells l)) : (Go.convert 52 9 v).run Tryd.prog w = .ok (.string ⟨l.toArray⟩) w := by
  rcases h.2 with ⟨rfl, h0⟩ | ⟨g, cap, cur, rfl, hb, hg, hn, hm, hcs, ht⟩
  · obtain rfl : l = [] := List.eq_nil_of_length_eq_zero h0
    kernel_rfl
  · have hH : Has w g cur 5 := hg
    refine run_convert_bytes_back w 52 9 5 ⟨g, 0, none⟩ cap l Tryd.underlying52 Tryd.underlying5 Tryd.underlying9 (fun j hj => ?_)
    have e : cur[j]? = (Lib.byteCells l)[j]? := by rw [← ht, List.getElem?_take_of_lt (by omega), Array.getElem?_toList]
    rw [Addr.add_mid, Nat.zero_add, hH.cell j, e]
    simp [Lib.byteCells, hj]
set_option maxHeartbeats 400000 in
theorem text_at (b : Nat) (v : Value) (l : List UInt8) (w : World) (h : PenAt w b v l) : Calls Tryd.prog 22 #[.pointer (some ⟨b, 0, none⟩)] w fun r w' => r = .returned (.string ⟨l.toArray⟩) ∧ w = w' := by
  have c0 := h.c0
  have hcv : (Go.convert 52 9 v).run Tryd.prog w = .ok (.string ⟨l.toArray⟩) w := by
    exact conv_owned h.own
  go_enter Tryd.func22, Tryd.ntmps22
  go_wp2_with fail
  go_ret
  exact ⟨rfl, rfl⟩
end Go.Proofs.YtomegahohiijcaaDoor
/-
  The reference of layer 5: Number, Count, Name, Back.
-/
namespace Go.Proofs.YtomegahohiijcaaDoor
open Go.RowKit Mem Sc
/-- a text of bytes -/
def txt (l : List UInt8) : ByteArray := ⟨l.toArray⟩
theorem txt_size (l : List UInt8) : (txt l).size = l.length := by show l.toArray.size = _; simp
theorem txt_list (l : List UInt8) : (txt l).data.toList = l := rfl
theorem txt_of (s : ByteArray) : txt s.data.toList = s := ba_ext rfl
theorem txt_append (a b : List UInt8) : txt a ++ txt b = txt (a ++ b) := by
  apply ba_ext
  simp [txt]
/-- one byte, made and turned into a text -/
theorem conv_one (y : UInt8) (w : World) : (Go.convert 52 9 (.slice (some ⟨w.heap.size, 0, none⟩) 1 1)).run Tryd.prog (w.alloc (.cells #[.int .u8 (y.toNat : Int)] 5)) = .ok (.string (txt [y])) (w.alloc (.cells #[.int .u8 (y.toNat : Int)] 5)) := by
  refine run_convert_bytes_back (w.alloc (.cells #[.int .u8 (y.toNat : Int)] 5)) 52 9 5 ⟨w.heap.size, 0, none⟩ 1 [y] Tryd.underlying52 Tryd.underlying5 Tryd.underlying9 (fun j hj => ?_)
  obtain rfl : j = 0 := by simpa using hj
  simp [Addr.add]
theorem byte_u64 (u k : Nat) : (u / 256 ^ k) % 256 = (byteU u k).toNat := (byteU_toNat u k).symm
theorem three_ways (size : Int) : (size < 1 ∧ near size 8 = 1) ∨ (8 < size ∧ near size 8 = 8) ∨ ((size : Int) = (near size 8 : Nat) ∧ 1 ≤ size ∧ size ≤ 8) := by unfold near; omega
set_option maxRecDepth 100000 in
set_option maxHeartbeats 1000000 in
theorem rnumber (size n : Int) (w : World) : Calls Tryd.prog 24 #[.int .i64 size, .int .i64 n] w fun r w' => r = .returned (.string (txt (num (near size 8) n))) ∧ Below w.heap.size w w' := by
  have hm := near_le size 8 (by omega)
  have H3 := Lib.hid (three_ways size)
  have hu := u64_lt n
  have e0 : IntKind.u64.wrap n = (u64 n : Nat) := by rw [IntKind.wrap_u64]; unfold u64; omega
  generalize near size 8 = m at *
  unfold num
  generalize u64 n = u at *
  go_enter Tryd.func24, Tryd.ntmps24
  go_wp2_with fail
  clear e0
  go_loopw [5, 6, 7] (fun q s i wr => ∃ k q' : Nat, k ≤ m ∧ i = .int .i64 k ∧ Hid (q' = u / 256 ^ k) ∧ q = .int .u64 (q' : Int) ∧ s = .string (txt (le k u)) ∧ Below w.heap.size w wr) (fun _ _ i _ => m - (intOf i).toNat)
  case atStart => exact ⟨0, u, Nat.zero_le _, rfl, Lib.hid (by simp), rfl, rfl, Below.refl _ _⟩
  case round =>
    obtain ⟨k, q, hk, rfl, HQ, rfl, rfl, hb⟩ := hrel
    have hq : q < 18446744073709551616 := by rw [HQ.out]; exact Nat.lt_of_le_of_lt (Nat.div_le_self _ _) hu
    obtain ⟨q1, hq1⟩ : ∃ q1, q1 = q / 256 := ⟨_, rfl⟩
    have HQ1 : Hid (q1 = u / 256 ^ (k + 1)) := Lib.hid (by rw [hq1, HQ.out, Nat.pow_succ, Nat.div_div_eq_div_mul])
    have hy : (byteU u k).toNat = q % 256 := by rw [byteU_toNat, ← HQ.out]
    have hy2 := (byteU u k).toNat_lt
    have hs1 := txt_size (le k u)
    rw [le_length] at hs1
    have hs3 := txt_append (le k u) [byteU u k]
    rw [← le_succ k u] at hs3
    have hs4 : (txt [byteU u k]).size = 1 := txt_size _
    have HS3 := Lib.hid hs3
    have hcv := conv_one (byteU u k)
    have hb2 : ∀ cs t, Below w.heap.size w (wr.alloc (.cells cs t)) := fun cs t => hb.alloc hb.size _
    have HB2 := Lib.hid hb2
    generalize hyy : byteU u k = y at *
    generalize hss : txt (le k u) = s at *
    have f1 : (q : Int) % 256 = (y.toNat : Int) := by omega
    have f2 : (y.toNat : Int) % 256 = (y.toNat : Int) := by omega
    have f3 : (q : Int) / 256 = (q1 : Int) := by omega
    have f4 : (q : Int).tmod 256 = (y.toNat : Int) := by rw [Int.tmod_eq_emod_of_nonneg (by omega)]; exact f1
    have f5 : (q : Int).tdiv 256 = (q1 : Int) := by rw [Int.tdiv_eq_ediv_of_nonneg (by omega)]; exact f3
    have hq1l : q1 < 18446744073709551616 := by omega
    have hs5 : s.size ≤ 8 := by omega
    have hs6 : (txt [y]).size ≤ 1 := by omega
    have HSS := Lib.hid hss
    clear hq1 hy hs3 hb2 hs1 hs4 hyy hss
    have H3o := H3.out
    by_cases hlt : k < m
    · have hk7 : k ≤ 7 := by omega
      rcases H3o with ⟨h1, rfl⟩ | ⟨h1, rfl⟩ | ⟨h1, h2, h3⟩
      · obtain rfl : k = 0 := by omega
        clear hlt hk
        go_wp2_with fail
        exact ⟨⟨1, q1, by omega, rfl, HQ1, rfl, congrArg Value.string HS3.out, HB2.out _ _⟩, by simp [intOf]⟩
      · have h4 : ¬ size < 1 := by omega
        have h5 : decide ((k : Int) < 8) = true := decide_eq_true (by omega)
        clear hlt hk
        go_wp2_with fail
        exact ⟨⟨k + 1, q1, by omega, by go_num, HQ1, rfl, congrArg Value.string HS3.out, HB2.out _ _⟩, by simp [intOf]; omega⟩
      · have h4 : ¬ size < 1 := by omega
        have h5 : ¬ 8 < size := by omega
        subst h1
        have h6 : decide (k < m) = true := decide_eq_true hlt
        have hlt2 := Lib.hid hlt
        clear hlt hk
        go_wp2_with fail
        exact ⟨⟨k + 1, q1, hlt2.out, by go_num, HQ1, rfl, congrArg Value.string HS3.out, HB2.out _ _⟩, by have := hlt2.out; simp [intOf]; omega⟩
    · clear hcv HB2 HS3 HQ1 HQ f1 f2 f3 f4 f5
      rcases H3o with ⟨h1, rfl⟩ | ⟨h1, rfl⟩ | ⟨h1, h2, h3⟩
      · obtain rfl : k = 1 := by omega
        go_wp2_with fail
        go_ret
        exact ⟨congrArg (fun s => Ending.returned (.string s)) HSS.out.symm, hb⟩
      · obtain rfl : k = 8 := by omega
        have h4 : ¬ size < 1 := by omega
        go_wp2_with fail
        go_ret
        exact ⟨congrArg (fun s => Ending.returned (.string s)) HSS.out.symm, hb⟩
      · obtain rfl : k = m := by omega
        have h4 : ¬ size < 1 := by omega
        have h5 : ¬ 8 < size := by omega
        subst h1
        clear hlt hk
        go_wp2_with fail
        go_ret
        exact ⟨congrArg (fun s => Ending.returned (.string s)) HSS.out.symm, hb⟩
end Go.Proofs.YtomegahohiijcaaDoor
/-
  The reference of layer 5: Name, Back, Count.
-/
namespace Go.Proofs.YtomegahohiijcaaDoor
open Go.RowKit Mem Sc
set_option maxRecDepth 100000 in
set_option maxHeartbeats 1000000 in
theorem rname (l : List UInt8) (hl : l.length = 32) (w : World) : Calls Tryd.prog 25 #[.agg (bytesV l)] w fun r w' => r = .returned (.string (txt l)) ∧ Below w.heap.size w w' := by
  have HL := Lib.hid hl
  clear hl
  go_enter Tryd.func25, Tryd.ntmps25
  go_wp2_with fail
  generalize hw1 : World.alloc _ _ = w1
  have hA : Has w1 w.heap.size (bytesV l) 25 := by rw [← hw1]; exact Has.new _ _
  have hB : Below w.heap.size w w1 := by rw [← hw1]; exact (Below.refl _ _).alloc (Nat.le_refl _) _
  have hR : w.heap.size < w1.heap.size := hA.lt
  clear hw1
  go_loopw [3, 4] (fun s i wr => ∃ k : Nat, k ≤ 32 ∧ i = .int .i64 k ∧ s = .string (txt (l.take k)) ∧ Below w.heap.size w wr ∧ Has wr w.heap.size (bytesV l) 25) (fun _ i _ => 32 - (intOf i).toNat)
  case atStart => exact ⟨0, Nat.zero_le _, rfl, rfl, hB, hA⟩
  case round =>
    clear hA hB
    obtain ⟨k, hk, rfl, rfl, hB, hA⟩ := hrel
    by_cases hlt : k < 32
    · have hkl : k < l.length := by rw [HL.out]; exact hlt
      have c1 := hA.byte k hkl
      have hs1 := txt_size (l.take k)
      have hs3 := txt_append (l.take k) [l[k]]
      rw [← List.take_succ_eq_append_getElem hkl] at hs3
      have hs4 : (txt [l[k]]).size = 1 := txt_size _
      have HS3 := Lib.hid hs3
      have hcv := conv_one l[k]
      have hb2 : ∀ cs t, Below w.heap.size w (wr.alloc (.cells cs t)) ∧ Has (wr.alloc (.cells cs t)) w.heap.size (bytesV l) 25 := fun cs t => ⟨hB.alloc hB.size _, hA.alloc _⟩
      have HB2 := Lib.hid hb2
      have hs5 : (txt (l.take k)).size ≤ 32 := by rw [hs1, List.length_take]; omega
      have hs6 : (txt [l[k]]).size ≤ 1 := by omega
      generalize txt (l.take k) = s at *
      generalize l[k] = y at *
      clear hs3 hb2 hs1 hs4 hA hB
      go_wp2_with fail
      exact ⟨⟨k + 1, by omega, by go_num, congrArg Value.string HS3.out, (HB2.out _ _).1, (HB2.out _ _).2⟩, by simp [intOf]; omega⟩
    · obtain rfl : k = 32 := by omega
      have hT : l.take 32 = l := List.take_of_length_le (by rw [HL.out]; omega)
      have HT := Lib.hid hT
      clear hT
      go_wp2_with fail
      go_ret
      exact ⟨congrArg (fun m => Ending.returned (.string (txt m))) HT.out, hB⟩
theorem val_drop (l : List UInt8) (k : Nat) (hk : k < l.length) : val (l.drop k) = l[k].toNat + 256 * val (l.drop (k + 1)) := by
  rw [List.drop_eq_getElem_cons hk]; rfl
theorem val_drop_lt (l : List UInt8) (k : Nat) (h8 : l.length ≤ 8) (hk : 1 ≤ k) : val (l.drop k) < 72057594037927936 := by
  have h1 := val_lt (l.drop k)
  have h2 : 256 ^ (l.drop k).length ≤ 256 ^ 7 := Nat.pow_le_pow_right (by omega) (by rw [List.length_drop]; omega)
  omega
theorem txt_cons (b : UInt8) (l : List UInt8) : txt [b] ++ txt l = txt (b :: l) := txt_append [b] l
end Go.Proofs.YtomegahohiijcaaDoor
/-
  The reference of layer 5: Counted.
-/
namespace Go.Proofs.YtomegahohiijcaaDoor
open Go.RowKit Mem Sc
theorem head_byte {s : ByteArray} {b : UInt8} {r : List UInt8} (hs : s.data.toList = b :: r) (h : 0 < s.size) : s[0] = b := by
  have this : s.data.toList[0]? = some b := by rw [hs]; rfl
  have hd : 0 < s.data.size := h
  rw [Array.getElem?_toList, Array.getElem?_eq_getElem hd] at this
  exact Option.some.inj this
theorem ba_eq_list (a b : ByteArray) : (a.toList == b.toList) = decide (a.data.toList = b.data.toList) := by
  rw [ByteArray.toList_eq, ByteArray.toList_eq, Bool.eq_iff_iff]; simp
end Go.Proofs.YtomegahohiijcaaDoor
/-
  Layer 5's laws: alive.
-/
namespace Go.Proofs.YtomegahohiijcaaDoor
open Go.RowKit Mem Sc
theorem cnt253 : (⟨(([] : List UInt8) ++ cnt 253).toArray⟩ : ByteArray) = ⟨#[253, 253, 0]⟩ := by decide +kernel
/-- what a pen that the call made writes leaves old memory as it was -/
theorem pen_below {w w' : World} {b : Nat} {v v' : Value} {l : List UInt8} {W : World} (hB : Below W.heap.size W w) (hb : W.heap.size ≤ b) (hp : PenAt w b v l) (h : PenStep w w' b v v') : Below W.heap.size W w' :=
  hB.trans ((h.toBelow hp).mono hb)
theorem text_txt (b : Nat) (v : Value) (l : List UInt8) (w : World) (h : PenAt w b v l) : Calls Tryd.prog 22 #[.pointer (some ⟨b, 0, none⟩)] w fun r w' => r = .returned (.string (txt l)) ∧ w = w' := text_at b v l w h
end Go.Proofs.YtomegahohiijcaaDoor
