/-
  What the laws share: what the document tells is so, numbers as faults, scripts that aren't too great.
-/
import Derived.Test.YtehineieklpgoaaSrBlame
import Derived.Test.YtehineieklpgoaaSrOpen
namespace Go.Proofs.Ytehineieklpgoaa.An
open Go.RowKit Mem NN.Rg2
open Sr (Bd pt pts upd wo shunRow last16)
set_option maxRecDepth 100000
/-- a row of faults that came up since B -/
def RowF (w : World) (B : Nat) (v : Value) (n : Nat) (l : List Int) : Prop := w.ownsRow B 42 1 v n (l.map (Value.int .i64))
theorem flt_inf : ∃ i z, Try.prog.info? 42 = some i ∧ i.zero = some z ∧ i.size = 1 ∧ i.bytes = 8 ∧ z.cells.size = 1 := by
  have h1 : (Try.prog.info? 42).map (·.size) = some 1 := by kernel_rfl
  have h2 : ((Try.prog.info? 42).bind (·.zero)) = some (.int .i64 0) := by kernel_rfl
  have h3 : (Try.prog.info? 42).map (·.bytes) = some 8 := by kernel_rfl
  cases hi : Try.prog.info? 42 with
  | none => rw [hi] at h1; cases h1
  | some i =>
    rw [hi] at h1 h2 h3
    exact ⟨i, .int .i64 0, rfl, by simpa using h2, by simpa using h1, by simpa using h3, rfl⟩
theorem app_flt {w : World} {ops : Array Oper} {rest : List Oper} {o : Oper} {a : Act} {Q : Exit → Act → World → Prop} (hgd : o.guard = none) (s x : Operand) (ho : o.op = .call { callee := .builtin .append, args := #[s, x], argTypes := #[35, 35] })
    (base : Nat) (v : Value) (n : Nat) (l : List Int) (hs : a.eval s = v) (hown : RowF w base v n l) (g : Nat) (z : Int) (hx : a.eval x = .slice (some ⟨g, 0, none⟩) 1 1) (hg : w.cell? ⟨g, 0, none⟩ = some (.int .i64 z)) (hn : n ≤ 1000) (hbase : base ≤ w.heap.size)
    (h : ∀ v' w', RowF w' base v' (n + 1) (l ++ [z]) → Below base w w' → wpList Try.prog ops Q rest (a.put o.dst v') w') : wpList Try.prog ops Q (o :: rest) a w :=
  app_el Try.underlying35 flt_inf (by decide) (by decide) hgd s x ho base v n _ [.int .i64 z] hs hown g hx (fun j u hj => by
    match j, hj with
    | 0, hj => rw [Nat.zero_add, hg]; exact hj
    | j + 1, hj => simp at hj) rfl (fun u hu => by
    obtain rfl : u = .int .i64 z := by simpa using hu
    rfl) hn hbase fun v' w' q1 q2 => h v' w' (by unfold RowF; rw [List.map_append]; exact q1) q2
theorem build_flt (w : World) (z : Int) : (Instr.buildSlice 35 1 #[(0, .int .i64 z)]).run Try.prog w = .ok (.slice (some ⟨w.heap.size, 0, none⟩) 1 1) (w.alloc (.cells #[.int .i64 z] 42)) := by kernel_rfl
theorem one_fs (w : World) (z : Int) (T : TypeId) : FsAt (w.alloc (.cells #[.int .i64 z] T)) (some ⟨w.heap.size, 0, none⟩) [z] := fun _ => ⟨w.heap.size, 0, rfl, Has.lt (Has.new _ _), fun j y hj => by
  rw [Nat.zero_add, Has.cell (Has.new _ _)]
  match j, hj with
  | 0, hj => obtain rfl := Option.some.inj hj; rfl
  | j + 1, hj => simp at hj⟩
set_option maxHeartbeats 4000000 in
theorem faults_at (p : Option Addr) (l : List Int) (n c : Nat) (hn : n = l.length) (hl : n ≤ 100) (w : World) (hA : FsAt w p l) : Calls Try.prog 12 #[.slice p n c] w fun e w' => ∃ p' c', e = .returned (.slice p' n c') ∧ FsAt w' p' l ∧ (∀ i, (Value.slice p' n c').ownBlock = some i → w.heap.size ≤ i ∧ i < w'.heap.size) ∧ Below w.heap.size w w' := by
  have HA := Lib.hid hA
  have HN := Lib.hid hn
  have hB := Below.refl w.heap.size w
  clear hA hn
  go_enter Try.func12, Try.ntmps12
  go_wp2_with fail
  go_loopw [3, 8] (fun v i wl => ∃ (u : Nat) (pv : Option Addr) (cv : Nat), u ≤ n ∧ i = .int .i64 (u : Int) ∧ v = .slice pv u cv ∧ Hid (RowF wl w.heap.size (.slice pv u cv) u (l.take u)) ∧ Below w.heap.size w wl) (fun _ i _ => n - (intOf i).toNat)
  case atStart => exact ⟨0, none, 0, Nat.zero_le _, rfl, rfl, Lib.hid (World.ownsRow_nil _ _ _ _), hB⟩
  case round =>
    obtain ⟨u, pv, cv, hu, rfl, rfl, HV, hb⟩ := hrel
    rename World => wl
    clear hB
    by_cases hlt : u < n
    · obtain ⟨z, hz⟩ : ∃ z, l[u]? = some z := ⟨l[u]'(by rw [← HN.out]; exact hlt), List.getElem?_eq_getElem _⟩
      obtain ⟨b, off, rfl, _, hc⟩ := (HA.out.below hb) (by rw [← HN.out]; omega)
      have hcz := hc u z hz
      have HW2 : Hid (l.take (u + 1) = l.take u ++ [z]) := Lib.hid (Sr.take_more hz)
      clear hc hz
      have hmk := build_flt wl z
      have hb5 : Below w.heap.size w (wl.alloc (.cells #[.int .i64 z] 42)) := hb.alloc hb.size _
      have hz5 : (wl.alloc (.cells #[.int .i64 z] 42)).cell? ⟨wl.heap.size, 0, none⟩ = some (.int .i64 z) := Has.cell (Has.new _ _) 0
      have hR5 : RowF (wl.alloc (.cells #[.int .i64 z] 42)) w.heap.size (.slice pv u cv) u (l.take u) := row_below HV.out ((Below.refl _ _).alloc (Nat.le_refl _) _) (Nat.le_refl _)
      have hs5 := hb5.size
      have hN9 : u ≤ 1000 := by omega
      clear HV
      go_wp2_with ((with_reducible refine app_flt rfl _ _ rfl w.heap.size (.slice pv u cv) u (l.take u) rfl hR5 wl.heap.size z rfl hz5 hN9 hs5 ?_); intro v6 w6 hR6 hb6; rw [← HW2.out] at hR6; obtain ⟨p6, c6, e6, hc6⟩ := own_slice hR6; subst e6)
      go_roundw
      case rel => exact ⟨u + 1, p6, c6, by omega, by go_num, rfl, Lib.hid hR6, hb5.trans hb6⟩
      case measure => simp [intOf]; omega
    · obtain rfl : u = n := by omega
      have hV := HV.out
      rw [HN.out, List.take_length] at hV
      obtain ⟨p7, c7, e7, _, hf7⟩ := fs_own hV
      rw [← HN.out] at e7 hV
      cases e7
      have HX := Lib.hid (And.intro hf7 (And.intro (own_block hV) hb))
      clear hf7 hV HV hb
      go_wp2_with fail
      go_ret
      exact ⟨_, _, rfl, HX.out⟩
/-! ### a script -/
def clA (x : Cl) : Array Value := (clC x).toArray
def ClAt (w : World) (b : Nat) (x : Cl) : Prop := Has w b (clA x) 32
theorem ClAt.c0 {w : World} {b : Nat} {x : Cl} (h : ClAt w b x) : w.cell? ⟨b, 0, none⟩ = some (.int .i64 x.kind) := Has.cell h 0
theorem ClAt.c1 {w : World} {b : Nat} {x : Cl} (h : ClAt w b x) : w.cell? ⟨b, 1, none⟩ = some (.int .i64 x.peer) := Has.cell h 1
theorem ClAt.c2 {w : World} {b : Nat} {x : Cl} (h : ClAt w b x) : w.cell? ⟨b, 2, none⟩ = some (.slice x.na x.nn x.nc) := Has.cell h 2
theorem clinfo : (Try.prog.info? 32).map (·.size) = some 3 := by kernel_rfl
theorem cl_one (x : Cl) : (clA x).all (·.oneCell') = true := by unfold clA clC; simp [Value.oneCell']
theorem cl_load_mid {w : World} {ops : Array Oper} {rest : List Oper} {o : Oper} {a : Act} {Q : Exit → Act → World → Prop} (hgd : o.guard = none) (x : Operand) (ho : o.op = .load 32 x) (g off : Nat) (hx : a.eval x = .pointer (some ⟨g, off, none⟩)) (y : Cl) (hg : w.rangeAt g off (clC y))
    (hk : wpList Try.prog ops Q rest (a.put o.dst (.agg (clA y))) w) : wpList Try.prog ops Q (o :: rest) a w :=
  wpList_load_mid hgd 32 x ho g off hx (clC y) _ hg Try.underlying32 rfl clinfo hk
theorem cl_store {w : World} {ops : Array Oper} {rest : List Oper} {o : Oper} {a : Act} {Q : Exit → Act → World → Prop} (hgd : o.guard = none) (x z : Operand) (ho : o.op = .store 32 x z) (g : Nat) (y : Cl) (hx : a.eval x = .pointer (some ⟨g, 0, none⟩)) (hz : a.eval z = .agg (clA y)) (cs : Array Value) (hg : Has w g cs 32) (hs : cs.size = 3)
    (hk : wpList Try.prog ops Q rest (a.put o.dst undef) (w.setRow g (clA y))) : wpList Try.prog ops Q (o :: rest) a w :=
  wpList_store_row hgd 32 x z ho g (clA y) hx hz 32 cs hg.out clinfo hs (cl_one y) hk
theorem cl_new (w : World) (y : Cl) : ClAt ((w.alloc (.cells #[.int .i64 0, .int .i64 0, .slice none 0 0] 32)).setRow w.heap.size (clA y)) w.heap.size y := (Has.new (w := w) #[.int .i64 0, .int .i64 0, .slice none 0 0] 32).row _
/-- a script that isn't too great -/
def Fits (n : Nat) (l : List Cl) : Prop := n ≤ 100 ∧ ∀ (i : Nat) (y : Cl), l[i]? = some y → y.nn ≤ 20
set_option maxHeartbeats 4000000 in
theorem great_at (a : Option Addr) (l : List Cl) (n c : Nat) (hn : n = l.length) (hn9 : n < 9223372036854775808) (w : World) (hA : CallsAt w a l) : Calls Try.prog 8 #[.slice a n c] w fun e w' => ∃ g, e = .returned (.bool g) ∧ (g = false → Fits n l) ∧ Below w.heap.size w w' := by
  have HA := Lib.hid hA
  have HN := Lib.hid hn
  have hB := Below.refl w.heap.size w
  clear hA hn
  go_enter Try.func8, Try.ntmps8
  go_wp2_with fail
  go_loopw [7] (fun i wl => ∃ u : Nat, u ≤ n ∧ i = .int .i64 (u : Int) ∧ Hid (∀ (i : Nat) (y : Cl), i < u → l[i]? = some y → y.nn ≤ 20) ∧ Below w.heap.size w wl) (fun i _ => n - (intOf i).toNat)
  case atStart => exact ⟨0, Nat.zero_le _, rfl, Lib.hid fun i y hi => absurd hi (Nat.not_lt_zero _), hB⟩
  case round =>
    obtain ⟨u, hu, rfl, HV, hb⟩ := hrel
    rename World => wl
    clear hB
    by_cases hlt : u < n
    · obtain ⟨y, hy⟩ : ∃ y, l[u]? = some y := ⟨l[u]'(by rw [← HN.out]; exact hlt), List.getElem?_eq_getElem _⟩
      obtain ⟨ab, ao, rfl, _, hcc⟩ := (HA.out.below hb) (by rw [← HN.out]; omega)
      obtain ⟨hok, hr⟩ := hcc u y hy
      have HY := Lib.hid hy
      have hny := hok.few
      have hnew : Has (wl.alloc (.cells #[.int .i64 0, .int .i64 0, .slice none 0 0] 32)) wl.heap.size #[.int .i64 0, .int .i64 0, .slice none 0 0] 32 := Has.new _ _
      clear hcc hy hok
      go_upto_region 4 with (first
        | (with_reducible refine cl_load_mid rfl _ rfl ab (ao + u * 3) rfl y hr ?_)
        | (with_reducible refine cl_store rfl _ _ rfl _ y rfl rfl _ hnew rfl ?_))
      have hC3 := cl_new wl y
      have hB3 : Below wl.heap.size wl ((wl.alloc (.cells #[.int .i64 0, .int .i64 0, .slice none 0 0] 32)).setRow wl.heap.size (clA y)) := by
        have := gb_setRow (gb_below ((Below.refl wl.heap.size wl).alloc (Nat.le_refl _) (.cells #[.int .i64 0, .int .i64 0, .slice none 0 0] 32)) (some wl.heap.size)) (clA y)
        exact gb_toBelow this (Nat.le_refl _) (Nat.le_refl _)
      generalize World.setRow _ _ _ = w3 at *
      clear hnew hr
      obtain ⟨bC, hbC⟩ : ∃ bC, bC = wl.heap.size := ⟨_, rfl⟩
      rw [← hbC] at hC3 ⊢
      have c2 := hC3.c2
      have hb2 := hb.trans (hB3.mono hb.size)
      clear hB3 hb hbC hC3
      by_cases h20 : 20 < y.nn
      · have t1 : decide ((20 : Int) < (y.nn : Int)) = true := decide_eq_true (by omega)
        clear HV HY h20 hny
        go_wp2_with fail
        go_ret
        exact ⟨_, rfl, fun h => (by cases h), hb2⟩
      · have t1 : decide ((20 : Int) < (y.nn : Int)) = false := decide_eq_false (by omega)
        have HV2 : Hid (∀ (i : Nat) (y : Cl), i < u + 1 → l[i]? = some y → y.nn ≤ 20) := Lib.hid fun i y2 hi hh => by
          by_cases h2 : i < u
          · exact HV.out i y2 h2 hh
          · obtain rfl : i = u := by omega
            obtain rfl := Option.some.inj (HY.out.symm.trans hh)
            omega
        clear HV HY h20 hny
        go_wp2_with fail
        go_roundw
        case rel => exact ⟨u + 1, by omega, by go_num, HV2, hb2⟩
        case measure => simp [intOf]; omega
    · obtain rfl : u = n := by omega
      obtain ⟨g, hg⟩ : ∃ g, decide ((100 : Int) < (u : Int)) = g := ⟨_, rfl⟩
      have HE : Hid (g = false → Fits u l) := Lib.hid fun h => by
        rw [← hg] at h
        have := of_decide_eq_false h
        exact ⟨by omega, fun i y hi => HV.out i y (by rw [HN.out]; exact (List.getElem?_eq_some_iff.1 hi).1) hi⟩
      clear HV HN HA
      go_wp2_with fail
      go_ret
      exact ⟨_, rfl, HE.out, hb⟩
/-! ### what the document tells -/
def x1 : Bd := Bd.new.blame 1 (pts [4, 4, 4, 4])
def x2 : Bd := x1.blame 1 (pts [4])
theorem x1_no : x1.shuns 1 = false := by decide +kernel
theorem x1_sum : x1.p 1 = 80 := by decide +kernel
theorem x2_yes : x2.shuns 1 = true := by decide +kernel
theorem x2_sum : x2.p 1 = 0 := by decide +kernel
theorem build_four (w : World) : (Instr.buildSlice 35 4 #[(0, .int .i64 4), (1, .int .i64 4), (2, .int .i64 4), (3, .int .i64 4)]).run Try.prog w = .ok (.slice (some ⟨w.heap.size, 0, none⟩) 4 4) (w.alloc (.cells #[.int .i64 4, .int .i64 4, .int .i64 4, .int .i64 4] 42)) := by kernel_rfl
theorem four_fs (w : World) (T : TypeId) : FsAt (w.alloc (.cells #[.int .i64 4, .int .i64 4, .int .i64 4, .int .i64 4] T)) (some ⟨w.heap.size, 0, none⟩) [4, 4, 4, 4] := fun _ => ⟨w.heap.size, 0, rfl, Has.lt (Has.new _ _), fun j y hj => by
  rw [Nat.zero_add, Has.cell (Has.new _ _)]
  match j, hj with
  | 0, hj => obtain rfl := Option.some.inj hj; rfl
  | 1, hj => obtain rfl := Option.some.inj hj; rfl
  | 2, hj => obtain rfl := Option.some.inj hj; rfl
  | 3, hj => obtain rfl := Option.some.inj hj; rfl
  | j + 4, hj => simp at hj⟩
theorem one64 : in64 1 := by unfold in64; omega
set_option maxHeartbeats 4000000 in
theorem alive20 (w : World) : Calls Try.prog 7 #[] w fun e w' => e = .returned (.bool true) ∧ Below w.heap.size w w' := by
  go_enter Try.func7, Try.ntmps7
  go_wp2_with fail
  refine (new_at w).mono ?_
  rintro e w1 ⟨b, rfl, hwb, hS, hb1⟩
  have hmk := build_four w1
  have hb2 : Below w1.heap.size w1 (w1.alloc (.cells #[.int .i64 4, .int .i64 4, .int .i64 4, .int .i64 4] 42)) := (Below.refl _ _).alloc (Nat.le_refl _) _
  have h2 := hS.below hb2 fun i hi => hi.2
  have K1 := Lib.hid (blame_at h2 (by decide) 1 one64 (some ⟨w1.heap.size, 0, none⟩) [4, 4, 4, 4] 4 4 rfl (by decide) (four_fs w1 _))
  rw [show (Bd.new.blame 1 (pts [4, 4, 4, 4])).shuns 1 = false from x1_no] at K1
  have hF : ∀ i, w.heap.size ≤ i ∧ i < w1.heap.size → w.heap.size ≤ i := fun i hi => hi.1
  have hB2 := hb1.trans (hb2.mono hb1.size)
  clear hS hb2 h2 hb1
  go_wp2_with fail
  refine (K1.out).mono ?_
  rintro e w3 ⟨rfl, h3, hk3⟩
  have hB3 := hB2.trans (hk3.below hF hB2.size)
  have hF3 : ∀ i, Nxt (fun i => w.heap.size ≤ i ∧ i < w1.heap.size) (w1.alloc (.cells #[.int .i64 4, .int .i64 4, .int .i64 4, .int .i64 4] 42)) w3 i → w.heap.size ≤ i := fun i hi => hi.elim (fun h => h.1) fun h => Nat.le_trans hB2.size h.1
  have K2 := Lib.hid (sum_at h3 1 one64)
  rw [show ((Bd.new.blame 1 (pts [4, 4, 4, 4])).p 1 : Int) = 80 from congrArg Nat.cast x1_sum] at K2
  have H3 := Lib.hid h3.there
  clear K1 hk3 h3 hB2 hF hmk
  go_wp2_with fail
  refine (K2.out).mono ?_
  rintro e w' ⟨rfl, rfl⟩
  rename World => w4
  clear K2
  have hmk := build_flt w4 4
  have hb5 : Below w4.heap.size w4 (w4.alloc (.cells #[.int .i64 4] 42)) := (Below.refl _ _).alloc (Nat.le_refl _) _
  have h5 := H3.out.below hb5 fun i hi => hi.2
  have K5 := Lib.hid (blame_at h5 (by decide) 1 one64 (some ⟨w4.heap.size, 0, none⟩) [4] 1 1 rfl (by decide) (one_fs w4 4 _))
  rw [show ((Bd.new.blame 1 (pts [4, 4, 4, 4])).blame 1 (pts [4])).shuns 1 = true from x2_yes] at K5
  have hB5 := hB3.trans (hb5.mono hB3.size)
  clear H3 h5 hb5 hB3
  go_wp2_with fail
  refine (K5.out).mono ?_
  rintro e w6 ⟨rfl, h6, hk6⟩
  have hB6 := hB5.trans (hk6.below (fun i hi => hF3 i hi.1) hB5.size)
  have K6 := Lib.hid (shuns_at h6 1)
  have K7 := Lib.hid (sum_at h6 1 one64)
  rw [show ((Bd.new.blame 1 (pts [4, 4, 4, 4])).blame 1 (pts [4])).shuns 1 = true from x2_yes] at K6
  rw [show (((Bd.new.blame 1 (pts [4, 4, 4, 4])).blame 1 (pts [4])).p 1 : Int) = 0 from congrArg Nat.cast x2_sum] at K7
  clear K5 h6 hk6 hB5 hF3 hmk
  go_wp2_with fail
  refine (K6.out).mono ?_
  rintro e w' ⟨rfl, rfl⟩
  go_wp2_with fail
  refine (K7.out).mono ?_
  rintro e w' ⟨rfl, rfl⟩
  go_wp2_with fail
  go_ret
  exact ⟨rfl, hB6⟩
end Go.Proofs.Ytehineieklpgoaa.An
