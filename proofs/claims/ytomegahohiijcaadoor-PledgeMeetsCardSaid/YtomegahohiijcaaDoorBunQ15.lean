/-
  Texts of this seat, one behind the other.
-/
import Derived.Test.YtomegahohiijcaaDoorBunQ14
import Derived.Deep.DeepCutAuto
/-
  Layer 5's laws: the items of a script, in memory; great.
-/
namespace Go.Proofs.YtomegahohiijcaaDoor
open Go.RowKit Mem Sc
structure It where
  kind : Int
  size : Int
  n : Int
  name : List UInt8
  text : ByteArray
def It.ok (x : It) : Prop := x.name.length = 32 ∧ x.text.size ≤ 4611686018427387904
def itemC (x : It) : List Value := .int .i64 x.kind :: .int .i64 x.size :: .int .i64 x.n :: (Lib.byteCells x.name ++ [.string x.text])
theorem itemC_length {x : It} (h : x.name.length = 32) : (itemC x).length = 36 := by simp [itemC, Lib.byteCells_length, h]
def itemA (x : It) : Array Value := (itemC x).toArray
theorem itemA_size {x : It} (h : x.name.length = 32) : (itemA x).size = 36 := by show (itemC x).toArray.size = 36; rw [List.size_toArray]; exact itemC_length h
theorem itemA_one (x : It) : (itemA x).all (·.oneCell') = true := by
  rw [Array.all_eq_true_iff_forall_mem]
  intro v hv
  simp only [itemA, itemC, List.mem_toArray, List.mem_cons, List.mem_append] at hv
  rcases hv with rfl | rfl | rfl | hv | hv
  · rfl
  · rfl
  · rfl
  · exact Lib.byteCells_one _ v hv
  · simp at hv; subst hv; rfl
def i0 : Array Value := itemA ⟨0, 0, 0, List.replicate 32 0, ⟨#[]⟩⟩
theorem i0_new (w : World) (t : TypeId) : Has (w.alloc (.cells #[.int .i64 0, .int .i64 0, .int .i64 0, .int .u8 0, .int .u8 0, .int .u8 0, .int .u8 0, .int .u8 0, .int .u8 0, .int .u8 0, .int .u8 0, .int .u8 0, .int .u8 0, .int .u8 0, .int .u8 0, .int .u8 0, .int .u8 0, .int .u8 0, .int .u8 0, .int .u8 0, .int .u8 0, .int .u8 0, .int .u8 0, .int .u8 0, .int .u8 0, .int .u8 0, .int .u8 0, .int .u8 0, .int .u8 0, .int .u8 0, .int .u8 0, .int .u8 0, .int .u8 0, .int .u8 0, .int .u8 0, .string ⟨#[]⟩] t)) w.heap.size i0 t := Has.new i0 t
theorem i0_size : i0.size = 36 := rfl
section
variable {w : World} {ops : Array Oper} {rest : List Oper} {o : Oper} {a : Act} {Q : Exit → Act → World → Prop}
end
/-- items lie where a slice says -/
def ItemsAt (w : World) (a : Option Addr) (its : List It) : Prop :=
  0 < its.length → ∃ ab ao, a = some ⟨ab, ao, none⟩ ∧ ∀ i (hi : i < its.length), its[i].ok ∧ w.rangeAt ab (ao + i * 36) (itemC its[i])
theorem range_block {w : World} {b o : Nat} {cs : List Value} (h : w.rangeAt b o cs) (h0 : 0 < cs.length) : b < w.heap.size := block_lt_of_cell (h 0 (cs[0]'h0) (List.getElem?_eq_getElem h0))
theorem range_below {w w' : World} {b o : Nat} {cs : List Value} (h : w.rangeAt b o cs) (hb : Below w.heap.size w w') (h0 : 0 < cs.length) : w'.rangeAt b o cs := fun j u hu => by
  have hlt := range_block h h0
  exact (hb.cell (p := ⟨b, o + j, none⟩) hlt).trans (h j u hu)
theorem ItemsAt.below {w w' : World} {a : Option Addr} {its : List It} (h : ItemsAt w a its) (hb : Below w.heap.size w w') : ItemsAt w' a its := fun h0 => by
  obtain ⟨ab, ao, ha, hc⟩ := h h0
  exact ⟨ab, ao, ha, fun i hi => ⟨(hc i hi).1, range_below (hc i hi).2 hb (by rw [itemC_length (hc i hi).1.1]; omega)⟩⟩
/-! ### great -/
def total (its : List It) : Nat := (its.map (·.text.size)).sum
theorem total_next (its : List It) (k : Nat) (hk : k < its.length) : total (its.take (k + 1)) = total (its.take k) + its[k].text.size := by
  unfold total
  rw [List.take_succ_eq_append_getElem hk, List.map_append, List.sum_append]
  simp
theorem total_le (its : List It) (k : Nat) : total (its.take k) ≤ total its := by
  unfold total
  conv => rhs; rw [← List.take_append_drop k its, List.map_append, List.sum_append]
  omega
def greatB (its : List It) : Bool := decide (4096 < total its) || decide (40 < its.length)
end Go.Proofs.YtomegahohiijcaaDoor
/-
  Layer 5's laws: put: what a script's items come to.
-/
namespace Go.Proofs.YtomegahohiijcaaDoor
open Go.RowKit Mem Sc
/-- what an item's bytes are -/
def encI (x : It) : List UInt8 :=
  if x.kind = 0 then num (near x.size 8) x.n ++ num (near x.size 8) x.n else if x.kind = 1 then cnt x.n else if x.kind = 2 then x.name else if x.kind = 3 then x.text.data.toList else []
def encL (its : List It) : List UInt8 := its.flatMap encI
theorem encL_next (its : List It) (k : Nat) (hk : k < its.length) : encL (its.take (k + 1)) = encL (its.take k) ++ encI its[k] := by
  unfold encL
  rw [List.take_succ_eq_append_getElem hk, List.flatMap_append]
  simp
theorem encI_le (x : It) (h : x.name.length = 32) : (encI x).length ≤ 32 + x.text.size := by
  have h1 := (near_le x.size 8 (by omega)).2
  have h2 := (cnt_length x.n).2
  unfold encI
  split
  · rw [List.length_append, num_length]; omega
  · split
    · omega
    · split
      · omega
      · split
        · rw [← Lib.size_eq]; omega
        · simp
theorem encL_le (its : List It) (h : ∀ x ∈ its, x.name.length = 32) : (encL its).length ≤ 32 * its.length + total its := by
  unfold encL total
  induction its with
  | nil => simp
  | cons x its ih =>
    have h1 := encI_le x (h x (by simp))
    have h2 := ih (fun y hy => h y (by simp [hy]))
    simp only [List.flatMap_cons, List.length_append, List.map_cons, List.sum_cons, List.length_cons]
    omega
/-- two numbers are put -/
theorem put2_at (b : Nat) (v : Value) (l : List UInt8) (size : Int) (x : Int) (w : World) (H : Nat) (hH : w.heap.size = H) (h : PenAt w b v l) (hsz : l.length ≤ 70368744177600) :
    Calls Tryd.prog 19 #[.pointer (some ⟨b, 0, none⟩), .int .i64 size, .slice (some ⟨H, 0, none⟩) 2 2] (w.alloc (.cells #[.int .i64 x, .int .i64 x] 3)) fun r w' => PenPost w b v (l ++ (num (near size 8) x ++ num (near size 8) x)) r w' := by
  subst hH
  have hb : Below w.heap.size w (w.alloc (.cells #[.int .i64 x, .int .i64 x] 3)) := (Below.refl _ _).alloc (Nat.le_refl _) _
  refine (put_at b v l size _ [x, x] 2 2 rfl _ (h.below hb) (IntsAt.new w h _ [x, x] _ rfl) (by omega)).mono ?_
  rintro r w' ⟨v', rfl, hP, hS⟩
  have e : nums (near size 8) [x, x] = num (near size 8) x ++ num (near size 8) x := by simp [nums]
  rw [e] at hP
  exact ⟨v', rfl, hP, hS.below hb⟩
/-- one name is put -/
theorem pname1_at (b : Nat) (v : Value) (l : List UInt8) (x : List UInt8) (hx : x.length = 32) (w : World) (H : Nat) (hH : w.heap.size = H) (h : PenAt w b v l) (hsz : l.length ≤ 70368744177600) :
    Calls Tryd.prog 20 #[.pointer (some ⟨b, 0, none⟩), .slice (some ⟨H, 0, none⟩) 1 1] (w.alloc (.cells (bytesV x) 25)) fun r w' => PenPost w b v (l ++ x) r w' := by
  subst hH
  have hlt := h.lt
  have hb : Below w.heap.size w (w.alloc (.cells (bytesV x) 25)) := (Below.refl _ _).alloc (Nat.le_refl _) _
  refine (pnames_at b v l _ [x] 1 1 rfl _ (h.below hb) (fun _ => ⟨w.heap.size, 0, rfl, by rw [World.size_alloc]; omega, fun i hi => ?_⟩) (fun _ p hp => ?_) (fun y hy => by simp at hy; subst hy; exact hx) (by omega)).mono ?_
  · obtain rfl : i = 0 := by simpa using hi
    refine ⟨hx, fun j u hu => ?_⟩
    have := news_bytes w x 25 j u hu
    rw [Addr.add_mid] at this
    simpa using this
  · obtain rfl := Option.some.inj hp
    exact ⟨by show w.heap.size ≠ b; omega, fun e => absurd (h.ownLt (k := w.heap.size) e).2 (by omega)⟩
  · rintro r w' ⟨v', rfl, hP, hS⟩
    have e : [x].flatten = x := by simp
    rw [e] at hP
    exact ⟨v', rfl, hP, hS.below hb⟩
structure PutS (w wr : World) (P : Nat) (v : Value) (l : List UInt8) : Prop where
  below : Below w.heap.size w wr
  pen : PenAt wr P v l
end Go.Proofs.YtomegahohiijcaaDoor
/-
  Plain mathematics: what is put is read again.
-/
namespace Go.Proofs.YtomegahohiijcaaDoor
open Go.RowKit Mem Sc
theorem cnt_head (n : Int) (hn : n < 253) : ∃ b : UInt8, cnt n = [b] ∧ b.toNat = (max n 0).toNat := by
  rw [cnt_low n hn]
  refine ⟨byteU (u64 (max n 0)) 0, rfl, ?_⟩
  rw [byteU_toNat]
  unfold u64
  omega
theorem many_read (b : UInt8) (k : Nat) (hb : szOf b = k) (hk0 : k ≠ 0) (n : Int) (hn0 : 0 ≤ n) (hn : n < 9223372036854775808) (hk : n < (256 ^ k : Nat)) (hl : least b ≤ n.toNat) (r : List UInt8) (most : Int) (hm : n ≤ most) :
    counted (b :: (num k n ++ r)) most = (n.toNat, 1 + k) := by
  have ht : told b (num k n ++ r) = n.toNat := by
    rw [told_many hb hk0, List.take_left' (num_length k n), val_num, Nat.mod_eq_of_lt]
    · unfold u64; omega
    · unfold u64; omega
  rw [counted_yes (by rw [hb, List.length_append, num_length]; omega) (by rw [ht]; omega) (by rw [ht]; exact hl) (by rw [ht]; omega), ht, hb]
theorem cnt_read (n : Int) (hn : n < 9223372036854775808) (r : List UInt8) (most : Int) (hm : max n 0 ≤ most) : counted (cnt n ++ r) most = ((max n 0).toNat, (cnt n).length) := by
  by_cases h1 : n < 253
  · obtain ⟨b, hb, hv⟩ := cnt_head n h1
    have h0 := szOf_other (b := b) (by rw [hv]; omega)
    have e1 := told_few h0 r
    rw [hb, List.cons_append, List.nil_append, counted_yes (by omega) (by omega) (by rw [least_few (by rw [hv]; omega)]; omega) (by rw [e1, hv]; omega), h0, e1, hv]
    rfl
  · have hmax : max n 0 = n := by omega
    rw [hmax] at hm ⊢
    by_cases h2 : n ≤ 65535
    · rw [cnt_2 n (by omega) h2]
      exact many_read 253 2 rfl (by omega) n (by omega) hn (by show n < ((65536 : Nat) : Int); omega) (by show 253 ≤ _; omega) r most hm
    · by_cases h3 : n ≤ 4294967295
      · rw [cnt_4 n (by omega) h3]
        exact many_read 254 4 rfl (by omega) n (by omega) hn (by show n < ((4294967296 : Nat) : Int); omega) (by show 65536 ≤ _; omega) r most hm
      · rw [cnt_8 n (by omega)]
        exact many_read 255 8 rfl (by omega) n (by omega) hn (by show n < ((18446744073709551616 : Nat) : Int); omega) (by show 4294967296 ≤ _; omega) r most hm
theorem txt_drop (a r : List UInt8) (k : Nat) (hk : a.length = k) : (txt (a ++ r)).extract k (txt (a ++ r)).size = txt r := by
  apply ba_ext
  rw [Lib.extract_to_end, txt_list, txt_list]
  exact List.drop_left' hk
theorem txt_take (a r : List UInt8) (k : Nat) (hk : a.length = k) : (txt (a ++ r)).extract 0 k = txt a := by
  apply ba_ext
  rw [Lib.extract_data, txt_list, txt_list]
  exact List.take_left' hk
theorem raw_txt (a r : List UInt8) (n : Int) (hn : n = (a.length : Nat)) : Ey.raw ⟨txt (a ++ r), false⟩ n = (txt a, ⟨txt r, false⟩) := by
  subst hn
  rw [raw_yes rfl (by show a.length ≤ (txt (a ++ r)).size; rw [txt_size, List.length_append]; omega)]
  show ((txt (a ++ r)).extract 0 a.length, (⟨(txt (a ++ r)).extract a.length (txt (a ++ r)).size, false⟩ : Ey)) = _
  rw [txt_take _ _ _ rfl, txt_drop _ _ _ rfl]
theorem count_txt (n : Int) (hn : n < 9223372036854775808) (r : List UInt8) (most : Int) (hm : max n 0 ≤ most) : Ey.count ⟨txt (cnt n ++ r), false⟩ most = ((max n 0).toNat, ⟨txt r, false⟩) := by
  unfold Ey.count
  rw [if_neg (by simp)]
  show behind (txt (cnt n ++ r)) (counted (txt (cnt n ++ r)).data.toList most) = _
  rw [txt_list, cnt_read n hn r most hm]
  unfold behind
  rw [if_neg (by have := (cnt_length n).1; show (cnt n).length ≠ 0; omega)]
  show ((max n 0).toNat, (⟨(txt (cnt n ++ r)).extract (cnt n).length (txt (cnt n ++ r)).size, false⟩ : Ey)) = _
  rw [txt_drop _ _ _ rfl]
theorem get_txt (size n : Int) (h1 : 1 ≤ size) (h7 : size ≤ 7) (r : List UInt8) : Ey.get ⟨txt (num (near size 8) n ++ r), false⟩ size = (val (num (near size 8) n), ⟨txt r, false⟩) := by
  have e : near size 7 = near size 8 := by unfold near; omega
  unfold Ey.get
  rw [e, raw_txt _ _ _ (by rw [num_length])]
  rfl
theorem name_txt (a r : List UInt8) (ha : a.length = 32) : Ey.name ⟨txt (a ++ r), false⟩ = (a, ⟨txt r, false⟩) := by
  unfold Ey.name
  rw [raw_txt a r 32 (by rw [ha]; rfl)]
  show (name32 (txt a).data.toList, _) = _
  rw [txt_list]
  unfold name32
  rw [if_pos ha]
theorem val7 (size n : Int) (h1 : 1 ≤ size) (h7 : size ≤ 7) : val (num (near size 8) n) < 72057594037927936 := by
  have h := val_lt (num (near size 8) n)
  rw [num_length] at h
  have h2 : 256 ^ near size 8 ≤ 256 ^ 7 := Nat.pow_le_pow_right (by omega) (by unfold near; omega)
  omega
theorem counted_none (l : List UInt8) (most : Int) : (counted l most).2 = 0 → (counted l most).1 = 0 := by
  cases l with
  | nil => intro _; rfl
  | cons b r =>
    rw [counted_cons]
    split
    · intro _; rfl
    · split
      · intro _; rfl
      · split
        · intro _; rfl
        · intro h
          have : 1 + szOf b = 0 := h
          omega
theorem counted_len (l : List UInt8) (most : Int) : (counted l most).2 ≤ l.length := by
  cases l with
  | nil => exact Nat.le_refl _
  | cons b r =>
    rw [counted_cons]
    split
    · exact Nat.zero_le _
    · split
      · exact Nat.zero_le _
      · split
        · exact Nat.zero_le _
        · show 1 + szOf b ≤ r.length + 1; omega
theorem counted_lt (l : List UInt8) (most : Int) : (counted l most).1 < 9223372036854775808 := by
  cases l with
  | nil => show 0 < 9223372036854775808; decide
  | cons b r =>
    rw [counted_cons]
    split
    · decide
    · split
      · decide
      · split
        · decide
        · show told b r < _; omega
end Go.Proofs.YtomegahohiijcaaDoor
/-
  Names in memory: loads in a region that draws its order; two names are compared; a slice of names that is owned.
-/
namespace Go.Proofs.YtomegahohiijcaaDoor
open Go.RowKit Mem Sc
theorem quiet_hl_mid {C : World → Prop} {a : Act} {o : Oper} {K : Act → Prop} (x : Operand) (ho : o.op = .load 25 x) (g off : Nat) (hx : a.eval x = .pointer (some ⟨g, off, none⟩)) (l : List UInt8) (hs : (Lib.byteCells l).length = 32) (hC : ∀ w', C w' → w'.rangeAt g off (Lib.byteCells l))
    (hk : K (a.put o.dst (.agg (bytesV l)))) : o.quiet Tryd.prog a C K :=
  ⟨_, fun w' hw' => by
    unfold Oper.quietAt
    have this : (execOp a.eval o).run Tryd.prog w' = .ok (.value (.agg (bytesV l))) w' := by
      unfold execOp
      simp only [ho, hx, Sem.run_bind, run_loadAt_mid w' g off 25 (Lib.byteCells l) _ (hC w' hw') Tryd.underlying25 rfl (hinfo.trans (by rw [hs])), Result.andThen_ok]
      rfl
    rw [this]
    exact ⟨rfl, rfl⟩, hk⟩
theorem range_cls {w : World} {g off : Nat} {cs : List Value} (h : w.rangeAt g off cs) (h0 : 0 < cs.length) : ∀ w', (∃ p : Regrown, w' = Sort.grow (redrawn w p.d) p.os) → w'.rangeAt g off cs := by
  rintro w' ⟨p, rfl⟩
  exact range_below h (below_regrown _ _ _) h0
theorem hsize1 : ∀ w, (sizeOf 5).run Tryd.prog w = .ok 1 w := fun _ => by kernel_rfl
theorem hplain : Tryd.prog.eqGuardType Tryd.prog.depth 25 = false := by kernel_rfl
theorem hneq_self (l : List UInt8) (h : l.length = 32) (w : World) : (binOp .neq 25 (.agg (bytesV l)) (.agg (bytesV l))).run Tryd.prog w = .ok (.bool false) w := by
  have e : (binOp .neq 25 (.agg (bytesV l)) (.agg (bytesV l))).run Tryd.prog w = .ok (.bool (!(l == l))) w := by
    rw [run_neq_struct]
    have this : (Op.equalIn 10000 25 (.agg (bytesV l)) (.agg (bytesV l))).run Tryd.prog w = .ok (l == l) w :=
      run_equalIn_bytes (P := Tryd.prog) w 9998 25 5 32 Tryd.underlying25 Tryd.underlying5 hsize1 l l h h
    rw [this]
    rfl
  rw [e]; simp
theorem heql_self (l : List UInt8) (h : l.length = 32) (w : World) : (binOp .eql 25 (.agg (bytesV l)) (.agg (bytesV l))).run Tryd.prog w = .ok (.bool true) w := by
  have e : (binOp .eql 25 (.agg (bytesV l)) (.agg (bytesV l))).run Tryd.prog w = .ok (.bool (l == l)) w := run_eql_bytes w 25 5 32 Tryd.underlying25 Tryd.underlying5 hsize1 l l h h
  rw [e]; simp
/-- two names are compared in a region that draws its order -/
theorem quiet_hneq {C : World → Prop} {a : Act} {o : Oper} {K : Act → Prop} (t' : TypeId) (x y : Operand) (ho : o.op = .binOp .neq 25 x y t') (xs ys : Array Value) (v : Value) (hx : a.eval x = .agg xs) (hy : a.eval y = .agg ys)
    (hq : ∀ w, (binOp .neq 25 (.agg xs) (.agg ys)).run Tryd.prog w = .ok v w) (hk : K (a.put o.dst v)) : o.quiet Tryd.prog a C K :=
  ⟨_, fun w' hw' => by
    unfold Oper.quietAt
    have this : (execOp a.eval o).run Tryd.prog w' = .ok (.value v) w' := by
      unfold execOp
      simp only [ho, hx, hy, Sem.run_bind, Sem.run_pure, run_eqGuard_agg w' .neq 25 x y xs ys hplain, Result.andThen_ok, hq]
    rw [this]
    exact ⟨rfl, rfl⟩, hk⟩
theorem flat_get (ls : List (List UInt8)) (h : ∀ x ∈ ls, x.length = 32) (i j : Nat) (hi : i < ls.length) (hj : j < 32) : (namesC ls)[i * 32 + j]? = (Lib.byteCells ls[i])[j]? := by
  induction ls generalizing i with
  | nil => simp at hi
  | cons x ls ih =>
    have hx : (Lib.byteCells x).length = 32 := by rw [Lib.byteCells_length]; exact h x (by simp)
    show (Lib.byteCells x ++ namesC ls)[i * 32 + j]? = _
    cases i with
    | zero => rw [List.getElem?_append_left (by omega)]; simp
    | succ i =>
      rw [List.getElem?_append_right (by omega), hx, show (i + 1) * 32 + j - 32 = i * 32 + j by omega, ih (fun y hy => h y (by simp [hy])) i (by simpa using hi)]
      rfl
/-- a slice of names that is owned -/
theorem owns_names {w : World} {base : Nat} {v : Value} {n : Nat} {ls : List (List UInt8)} (h : w.ownsRow base 25 32 v n (namesC ls)) (hn : n = ls.length) (h32 : ∀ x ∈ ls, x.length = 32) :
    ∃ a c, v = .slice a n c ∧ NamesAt w a ls := by
  rcases h.2 with ⟨rfl, rfl⟩ | ⟨g, cap, cur, rfl, hb, hg, hc, hm, hcs, ht⟩
  · exact ⟨none, 0, rfl, fun h0 => by omega⟩
  · refine ⟨_, _, rfl, fun h0 => ⟨g, 0, rfl, Has.lt hg, fun i hi => ⟨h32 _ (List.getElem_mem hi), fun j u hu => ?_⟩⟩⟩
    have hj : j < 32 := by
      have := (List.getElem?_eq_some_iff.1 hu).1
      rw [Lib.byteCells_length, h32 _ (List.getElem_mem hi)] at this; exact this
    rw [Has.cell hg, Nat.zero_add, ← hu, ← flat_get ls h32 i j hi hj, ← ht, List.getElem?_take_of_lt (by omega), Array.getElem?_toList]
theorem NamesAt.below {w w' : World} {a : Option Addr} {ls : List (List UInt8)} (h : NamesAt w a ls) (hb : Below w.heap.size w w') : NamesAt w' a ls := fun h0 => by
  obtain ⟨ab, ao, ha, hl, hc⟩ := h h0
  exact ⟨ab, ao, ha, by have := hb.size; omega, fun i hi => ⟨(hc i hi).1, range_below (hc i hi).2 hb (by rw [Lib.byteCells_length, (hc i hi).1]; omega)⟩⟩
theorem flatten_size (ls : List (List UInt8)) (h : ∀ x ∈ ls, x.length = 32) : ls.flatten.length = 32 * ls.length := by
  induction ls with
  | nil => rfl
  | cons x ls ih =>
    rw [List.flatten_cons, List.length_append, ih (fun y hy => h y (by simp [hy])), h x (by simp), List.length_cons]; omega
theorem nameTo_txt (ls : List (List UInt8)) (h : ∀ x ∈ ls, x.length = 32) (r : List UInt8) (k : Nat) (hk : k ≤ ls.length) : Ey.nameTo ⟨txt (ls.flatten ++ r), false⟩ k = (ls.take k, ⟨txt ((ls.drop k).flatten ++ r), false⟩) := by
  induction k with
  | zero => rfl
  | succ k ih =>
    have hkl : k < ls.length := hk
    show ((Ey.nameTo _ k).1 ++ [(Ey.nameTo _ k).2.name.1], (Ey.nameTo _ k).2.name.2) = _
    rw [ih (by omega)]
    show (ls.take k ++ [(Ey.name ⟨txt ((ls.drop k).flatten ++ r), false⟩).1], (Ey.name ⟨txt ((ls.drop k).flatten ++ r), false⟩).2) = _
    rw [List.drop_eq_getElem_cons hkl, List.flatten_cons, List.append_assoc, name_txt _ _ (h _ (List.getElem_mem hkl)), List.take_succ_eq_append_getElem hkl]
theorem names_txt (ls : List (List UInt8)) (h : ∀ x ∈ ls, x.length = 32) : Ey.names ⟨txt ls.flatten, false⟩ (ls.length : Nat) = (ls, ⟨txt [], false⟩) := by
  have hsz : (txt ls.flatten).size = 32 * ls.length := by rw [txt_size, flatten_size ls h]
  unfold Ey.names
  rw [if_neg (by show ¬ ((txt ls.flatten).size : Int) / 32 < _; omega), Int.toNat_natCast]
  have := nameTo_txt ls h [] ls.length (Nat.le_refl _)
  rw [List.append_nil, List.take_length, List.drop_length] at this
  exact this
theorem names_more (ls : List (List UInt8)) (h : ∀ x ∈ ls, x.length = 32) (m : Int) (hm : 0 < m) : Ey.names ⟨txt ls.flatten, false⟩ ((ls.length : Nat) + m) = ([], dark) := by
  have hsz : (txt ls.flatten).size = 32 * ls.length := by rw [txt_size, flatten_size ls h]
  unfold Ey.names
  rw [if_pos (by show ((txt ls.flatten).size : Int) / 32 < _; omega)]
end Go.Proofs.YtomegahohiijcaaDoor
