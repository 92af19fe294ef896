/-
  ScrollReads: the walk.
-/
import Derived.Test.YtjdhedebkpclmaaLawScPuts
namespace Go.Proofs.Ytjdhedebkpclmaa
open Go.RowKit Mem Sc
theorem bneq (b : Bool) (w : World) : (binOp .neq 4 (.bool b) (.bool b)).run Try.prog w = .ok (.bool false) w := by
  cases b <;> kernel_rfl
theorem raw_dark (n : Int) : Ey.raw dark n = (⟨#[]⟩, dark) := raw_bad rfl n
theorem raw_nil_lit (n : Int) (w : World) : Calls Try.prog 18 #[.pointer none, .int .i64 n] w fun r w' => r = .returned (.string ⟨#[]⟩) ∧ w = w' := raw_nil n w
theorem get_dark (n : Int) : Ey.get dark n = (0, dark) := by unfold Ey.get; rw [raw_dark]; rfl
theorem wide_dark : Ey.wide dark = (0, dark) := by unfold Ey.wide; rw [raw_dark]; rfl
theorem name_dark : Ey.name dark = (List.replicate 32 0, dark) := by unfold Ey.name; rw [raw_dark]; rfl
theorem count_dark (n : Int) : Ey.count dark n = (0, dark) := rfl
theorem get_no {s : ByteArray} {size : Int} (h : s.size < near size 7) : Ey.get ⟨s, false⟩ size = (0, dark) := by
  unfold Ey.get; rw [raw_no rfl (.inr (by show (s.size : Int) < _; omega))]; rfl
theorem get_yes {s : ByteArray} {size : Int} (h : near size 7 ≤ s.size) : Ey.get ⟨s, false⟩ size = (val (s.extract 0 (near size 7)).data.toList, ⟨s.extract (near size 7) s.size, false⟩) := by
  unfold Ey.get; rw [raw_yes rfl h]
theorem wide_no {s : ByteArray} (h : s.size < 8) : Ey.wide ⟨s, false⟩ = (0, dark) := by
  unfold Ey.wide; rw [raw_no rfl (.inr (by show (s.size : Int) < _; omega))]; rfl
theorem wide_yes {s : ByteArray} (h : 8 ≤ s.size) : Ey.wide ⟨s, false⟩ = if 9223372036854775808 ≤ val (s.extract 0 8).data.toList then (0, dark) else (val (s.extract 0 8).data.toList, ⟨s.extract 8 s.size, false⟩) := by
  unfold Ey.wide
  rw [show Ey.raw ⟨s, false⟩ 8 = (s.extract 0 8, ⟨s.extract 8 s.size, false⟩) from raw_yes (n := 8) rfl h]
theorem name_no {s : ByteArray} (h : s.size < 32) : Ey.name ⟨s, false⟩ = (List.replicate 32 0, dark) := by
  unfold Ey.name; rw [raw_no rfl (.inr (by show (s.size : Int) < _; omega))]; rfl
theorem name_yes {s : ByteArray} (h : 32 ≤ s.size) : Ey.name ⟨s, false⟩ = ((s.extract 0 32).data.toList, ⟨s.extract 32 s.size, false⟩) := by
  unfold Ey.name
  rw [show Ey.raw ⟨s, false⟩ 32 = (s.extract 0 32, ⟨s.extract 32 s.size, false⟩) from raw_yes (n := 32) rfl h]
  show (name32 (s.extract 0 32).data.toList, _) = _
  unfold name32
  rw [if_pos (by rw [← Lib.size_eq]; simp only [ByteArray.size_extract]; omega)]
theorem extract_size (s : ByteArray) (k : Nat) (h : k ≤ s.size) : (s.extract 0 k).size = k := by simp only [ByteArray.size_extract]; omega
theorem rest_size (s : ByteArray) (k : Nat) (h : k ≤ s.size) : (s.extract k s.size).size = s.size - k := by simp only [ByteArray.size_extract]; omega
theorem extract_all (s : ByteArray) (k : Nat) (h : k = s.size) : s.extract 0 k = s := by
  subst h
  apply ba_ext
  rw [Lib.extract_data, List.drop_zero, Nat.sub_zero, List.take_of_length_le (by rw [← Lib.size_eq]; omega)]
theorem empty_list (s : ByteArray) : (s.toList == (⟨#[]⟩ : ByteArray).toList) = decide (s.size = 0) := by
  rw [ba_eq_list, Bool.eq_iff_iff, decide_eq_true_iff, decide_eq_true_iff, Lib.size_eq]
  exact ⟨fun h => by rw [h]; rfl, fun h => List.eq_nil_of_length_eq_zero h⟩
theorem empty_list2 (s : ByteArray) : s.toList.isEmpty = decide (s.size = 0) := by
  rw [ByteArray.toList_eq, Lib.size_eq]
  cases s.data.toList <;> simp
theorem max_is {P : Program} (x y m : Int) (h : m = max x y) (ts : Array TypeId) (t : TypeId) (w : World) : (Builtin.max_ ts t #[.int .i64 x, .int .i64 y]).run P w = .ok (.int .i64 m) w := by
  rw [run_max_int2, show (if y > x then y else x) = m by split <;> omega]
theorem min_is {P : Program} (x y m : Int) (h : m = min x y) (ts : Array TypeId) (t : TypeId) (w : World) : (Builtin.min_ ts t #[.int .i64 x, .int .i64 y]).run P w = .ok (.int .i64 m) w := by
  rw [run_min_int2, show (if y < x then y else x) = m by split <;> omega]
theorem idx0 (q n : Int) (w : World) : (Instr.index 40 (.agg #[.int .i64 q, .int .i64 0, .int .i64 32, .int .i64 n, .int .i64 8]) (.int .i64 0)).run Try.prog w = .ok (.int .i64 q) w := by kernel_rfl
theorem idx1 (q n : Int) (w : World) : (Instr.index 40 (.agg #[.int .i64 q, .int .i64 0, .int .i64 32, .int .i64 n, .int .i64 8]) (.int .i64 1)).run Try.prog w = .ok (.int .i64 0) w := by kernel_rfl
theorem idx2 (q n : Int) (w : World) : (Instr.index 40 (.agg #[.int .i64 q, .int .i64 0, .int .i64 32, .int .i64 n, .int .i64 8]) (.int .i64 2)).run Try.prog w = .ok (.int .i64 32) w := by kernel_rfl
theorem idx3 (q n : Int) (w : World) : (Instr.index 40 (.agg #[.int .i64 q, .int .i64 0, .int .i64 32, .int .i64 n, .int .i64 8]) (.int .i64 3)).run Try.prog w = .ok (.int .i64 n) w := by kernel_rfl
theorem idx4 (q n : Int) (w : World) : (Instr.index 40 (.agg #[.int .i64 q, .int .i64 0, .int .i64 32, .int .i64 n, .int .i64 8]) (.int .i64 4)).run Try.prog w = .ok (.int .i64 8) w := by kernel_rfl
theorem hl_load_g {ops : Array Oper} {rest : List Oper} {o : Oper} {a : Act} {w : World} {Q : Exit → Act → World → Prop} (hw : Region.wanted o (yielded ops a.tmps) = true) (x : Operand) (ho : o.op = .load 30 x) (g : Nat) (hx : a.eval x = .pointer (some ⟨g, 0, none⟩)) (cs : Array Value) (hg : Has w g cs 30) (hs : cs.size = 32)
    (h : wpList Try.prog ops Q rest (a.put o.dst (.agg cs)) w) : wpList Try.prog ops Q (o :: rest) a w :=
  BigFrame.wpList_want hw fun _ hK => wp_load_row 30 x ho g hx 30 cs (0, 0) _ hg.out Try.underlying30 rfl (hinfo.trans (by rw [hs])) (hK _ _ h)
theorem wp_heql {o : Oper} {a : Act} {w : World} {K : Act → World → Prop} {Q : Exit → Act → World → Prop} (t' : TypeId) (x y : Operand) (ho : o.op = .binOp .eql 30 x y t') (xs ys : Array Value) (v : Value) (hx : a.eval x = .agg xs) (hy : a.eval y = .agg ys)
    (hq : (binOp .eql 30 (.agg xs) (.agg ys)).run Try.prog w = .ok v w) (h : K (a.put o.dst v) w) : o.wp Try.prog a w K Q := by
  unfold Oper.wp execOp
  simp only [ho, hx, hy, Sem.run_bind, Sem.run_pure, run_eqGuard_agg w .eql 30 x y xs ys hplain, Result.andThen_ok, hq]
  exact h
theorem heql_gz {ops : Array Oper} {rest : List Oper} {o : Oper} {a : Act} {w : World} {Q : Exit → Act → World → Prop} (hw : Region.wanted o (yielded ops a.tmps) = true) (t' : TypeId) (x y : Operand) (ho : o.op = .binOp .eql 30 x y t') (xs ys xs' ys' : Array Value) (v : Value) (hx : a.eval x = .agg xs) (hy : a.eval y = .agg ys) (ex : xs = xs') (ey : ys = ys')
    (hq : ∀ w, (binOp .eql 30 (.agg xs') (.agg ys')).run Try.prog w = .ok v w) (h : wpList Try.prog ops Q rest (a.put o.dst v) w) : wpList Try.prog ops Q (o :: rest) a w := by
  subst ex ey
  exact BigFrame.wpList_want hw fun _ hK => wp_heql t' x y ho xs ys v hx hy (hq w) (hK _ _ h)
theorem heql_zero (w : World) : (binOp .eql 30 (.agg h0) (.agg h0)).run Try.prog w = .ok (.bool true) w := heql_self (List.replicate 32 0) rfl w
/-- what holds at a round's head -/
structure ReadS (w wr : World) (E : Nat) (s : ByteArray) (bd : Bool) : Prop where
  below : Below w.heap.size w wr
  eye : EyeAt wr E ⟨s, bd⟩
set_option maxRecDepth 100000 in
set_option maxHeartbeats 8000000 in
def reads_cut : (P0 : Prop) ×' (P1 : Prop) ×' (P2 : Prop) ×' (P3 : Prop) ×' (P4 : Prop) ×' (Hid P0 → Hid P1 → Hid P2 → Hid P3 → Hid P4 → ∀ (s0 : ByteArray) (a : Option Addr) (its : List It) (n c : Nat) (_ : n = its.length) (_ : greatB its = false) (_ : s0.size ≤ 4096) (w : World) (_ : ItemsAt w a its),
    Calls Try.prog 4 #[.string s0, .slice a n c] w fun r w' => r = .returned (.bool true) ∧ Below w.heap.size w w') := by
  apply PSigma.mk
  apply PSigma.mk
  apply PSigma.mk
  apply PSigma.mk
  apply PSigma.mk
  · intro WY0 WY1 WY2 WY3 WY4 s0 a its n c hn h hs w hA
    obtain ⟨hl, ht⟩ := not_great h
    rw [← hn] at hl
    have GA := Lib.hid (fun w h' => great_at a its n c hn (by omega) w h' false h.symm)
    have HN := Lib.hid hn
    have HA := Lib.hid hA
    have td : decide ((4096 : Int) < (s0.size : Int)) = false := decide_eq_false (by omega)
    clear hA hn h ht
    go_enter Try.func4, Try.ntmps4
    go_wp2_with fail
    refine (salive w).mono ?_
    rintro r w1 ⟨rfl, hb⟩
    go_wp2_with fail
    refine (GA.out _ (HA.out.below hb)).mono ?_
    rintro r w2 ⟨rfl, hb2⟩
    replace hb := hb.trans (hb2.mono hb.size)
    clear hb2 GA
    go_wp2_with fail
    refine (on_ s0 _).mono ?_
    rintro r w4 ⟨rfl, hE, hb4⟩
    have hR : w.heap.size ≤ w2.heap.size := hb.size
    replace hb := hb.trans (hb4.mono hb.size)
    clear hb4
    generalize w2.heap.size = E at *
    have HR := Lib.hid hR
    have hS : ReadS w w4 E s0 false := ⟨hb, hE⟩
    have HS0 := Lib.hid hs
    clear hR hb hE td
    go_wp2_with fail
    clear hs
    go_loopw [0, 6, 31] (fun sv bv i wr => ∃ (k : Nat) (s : ByteArray) (bd : Bool), k ≤ n ∧ i = .int .i64 k ∧ sv = .string s ∧ bv = .bool bd ∧ s.size ≤ 4096 ∧ Hid (bd = true → s = ⟨#[]⟩) ∧ ReadS w wr E s bd) (fun _ _ i _ => n - (intOf i).toNat)
    case atStart => exact ⟨0, s0, false, Nat.zero_le _, rfl, rfl, rfl, HS0.out, Lib.hid (fun h => by cases h), hS⟩
    case round =>
      clear hS HS0
      obtain ⟨k, s, bd, hk, rfl, rfl, rfl, hs, HBD, hS⟩ := hrel
      by_cases hlt : k < n
      · have hkl : k < its.length := by rw [← HN.out]; exact hlt
        obtain ⟨hb, hE⟩ := hS
        obtain ⟨ab, ao, rfl, hc⟩ := (HA.out.below hb) (by omega)
        obtain ⟨⟨hx32, _⟩, hr⟩ := hc k hkl
        generalize its[k] = x at *
        have HX := Lib.hid hx32
        have HSz := Lib.hid (itemA_size hx32)
        have HL := Lib.hid (itemC_length hx32)
        clear hx32 hc
        go_upto_region 10 with (first
          | (with_reducible refine it_load_mid rfl _ rfl ab (ao + k * 36) rfl x hr HL.out ?_)
          | (with_reducible refine it_store rfl _ _ rfl _ x rfl rfl HSz.out i0 (i0_new _ _) i0_size ?_))
        generalize hw5 : World.setRow _ _ _ = w5
        have hX : BoxAt w5 wr.heap.size x := by rw [← hw5]; exact (i0_new _ _).row _
        have hb5 : Below wr.heap.size wr w5 := by rw [← hw5]; exact below_setRow ((Below.refl _ _).alloc (Nat.le_refl _) _) (Nat.le_refl _) _
        have hEl := hE.lt
        have hKE : wr.heap.size ≠ E := by omega
        replace hE := hE.on hb5
        have hRK : w.heap.size ≤ wr.heap.size := hb.size
        replace hb := hb.trans (hb5.mono hb.size)
        clear hw5 hb5 hr hEl
        generalize wr.heap.size = K at *
        have g0 := hX.kind
        have h1 := hX.sz
        have h2 := hX.num
        have HRo := HR.out
        have HKE := Lib.hid hKE
        have HXX := Lib.hid hX
        have hm7 := near_le x.size 7 (by omega)
        have M1 := max_is (P := Try.prog) x.size 1 _ rfl
        have M2 := min_is (P := Try.prog) (max x.size 1) 7 (near x.size 7 : Nat) (by unfold near; omega)
        generalize max x.size 1 = xs1 at *
        rename_i Qa Ka aa rt Qb Kb az Kc ac
        by_cases hk0 : x.kind < 1
        · revert s0 its n c w hl HN Qa w1 w2 w4 E HR Ka aa wr u4 u8 u9 u10 u11 u12 u13 u14 u15 u16 u32 u33 u34 u35 u36 u37 u38 u39 u40 u41 u42 u43 u44 u45 u46 u47 u48 u49 u50 u51 u52 u53 u54 u55 u56 u57 u58 u59 u60 u61 u62 u63 u64 u65 u66 u67 u68 u69 u70 u71 u72 u73 u74 u75 u76 u77 u78 u79 u80 u81 u82 u83 u84 u85 u86 u87 u88 u89 u90 u91 u92 u93 u94 u95 u96 u97 u98 u99 u100 u101 u102 u103 u104 u105 u106 u107 u108 u109 u110 u111 u112 u113 u114 u115 u116 u117 u118 u119 u120 u121 u122 u123 u124 u125 u126 u127 u128 u129 u130 u131 u132 u133 u134 u135 u136 u137 u138 u139 u140 u141 u142 u143 u144 u145 u146 u147 u148 u149 u150 u151 u152 u153 u154 u155 u156 u157 u158 u159 u160 u161 u162 u163 u164 u165 u166 u167 u168 u169 u170 u171 u172 u173 u174 u175 u176 u177 u178 u179 u180 u181 k s bd hk hs HBD hlt hkl ab ao HA x rt HX HSz HL Qb Kb az Kc ac w5 hE hb K hX hKE hRK g0 h1 h2 HRo HKE HXX hm7 xs1 M1 M2 hk0
          exact WY0.out
        by_cases hk1 : x.kind = 1
        · revert s0 its n c w hl HN Qa w1 w2 w4 E HR Ka aa wr u4 u8 u9 u10 u11 u12 u13 u14 u15 u16 u32 u33 u34 u35 u36 u37 u38 u39 u40 u41 u42 u43 u44 u45 u46 u47 u48 u49 u50 u51 u52 u53 u54 u55 u56 u57 u58 u59 u60 u61 u62 u63 u64 u65 u66 u67 u68 u69 u70 u71 u72 u73 u74 u75 u76 u77 u78 u79 u80 u81 u82 u83 u84 u85 u86 u87 u88 u89 u90 u91 u92 u93 u94 u95 u96 u97 u98 u99 u100 u101 u102 u103 u104 u105 u106 u107 u108 u109 u110 u111 u112 u113 u114 u115 u116 u117 u118 u119 u120 u121 u122 u123 u124 u125 u126 u127 u128 u129 u130 u131 u132 u133 u134 u135 u136 u137 u138 u139 u140 u141 u142 u143 u144 u145 u146 u147 u148 u149 u150 u151 u152 u153 u154 u155 u156 u157 u158 u159 u160 u161 u162 u163 u164 u165 u166 u167 u168 u169 u170 u171 u172 u173 u174 u175 u176 u177 u178 u179 u180 u181 k s bd hk hs HBD hlt hkl ab ao HA x rt HX HSz HL Qb Kb az Kc ac w5 hE hb K hX hKE hRK g0 h1 h2 HRo HKE HXX hm7 xs1 M1 M2 hk0 hk1
          exact WY1.out
        by_cases hk2 : x.kind = 2
        · revert s0 its n c w hl HN Qa w1 w2 w4 E HR Ka aa wr u4 u8 u9 u10 u11 u12 u13 u14 u15 u16 u32 u33 u34 u35 u36 u37 u38 u39 u40 u41 u42 u43 u44 u45 u46 u47 u48 u49 u50 u51 u52 u53 u54 u55 u56 u57 u58 u59 u60 u61 u62 u63 u64 u65 u66 u67 u68 u69 u70 u71 u72 u73 u74 u75 u76 u77 u78 u79 u80 u81 u82 u83 u84 u85 u86 u87 u88 u89 u90 u91 u92 u93 u94 u95 u96 u97 u98 u99 u100 u101 u102 u103 u104 u105 u106 u107 u108 u109 u110 u111 u112 u113 u114 u115 u116 u117 u118 u119 u120 u121 u122 u123 u124 u125 u126 u127 u128 u129 u130 u131 u132 u133 u134 u135 u136 u137 u138 u139 u140 u141 u142 u143 u144 u145 u146 u147 u148 u149 u150 u151 u152 u153 u154 u155 u156 u157 u158 u159 u160 u161 u162 u163 u164 u165 u166 u167 u168 u169 u170 u171 u172 u173 u174 u175 u176 u177 u178 u179 u180 u181 k s bd hk hs HBD hlt hkl ab ao HA x rt HX HSz HL Qb Kb az Kc ac w5 hE hb K hX hKE hRK g0 h1 h2 HRo HKE HXX hm7 xs1 M1 M2 hk0 hk1 hk2
          exact WY2.out
        by_cases hk3 : x.kind = 3
        · revert s0 its n c w hl HN Qa w1 w2 w4 E HR Ka aa wr u4 u8 u9 u10 u11 u12 u13 u14 u15 u16 u32 u33 u34 u35 u36 u37 u38 u39 u40 u41 u42 u43 u44 u45 u46 u47 u48 u49 u50 u51 u52 u53 u54 u55 u56 u57 u58 u59 u60 u61 u62 u63 u64 u65 u66 u67 u68 u69 u70 u71 u72 u73 u74 u75 u76 u77 u78 u79 u80 u81 u82 u83 u84 u85 u86 u87 u88 u89 u90 u91 u92 u93 u94 u95 u96 u97 u98 u99 u100 u101 u102 u103 u104 u105 u106 u107 u108 u109 u110 u111 u112 u113 u114 u115 u116 u117 u118 u119 u120 u121 u122 u123 u124 u125 u126 u127 u128 u129 u130 u131 u132 u133 u134 u135 u136 u137 u138 u139 u140 u141 u142 u143 u144 u145 u146 u147 u148 u149 u150 u151 u152 u153 u154 u155 u156 u157 u158 u159 u160 u161 u162 u163 u164 u165 u166 u167 u168 u169 u170 u171 u172 u173 u174 u175 u176 u177 u178 u179 u180 u181 k s bd hk hs HBD hlt hkl ab ao HA x rt HX HSz HL Qb Kb az Kc ac w5 hE hb K hX hKE hRK g0 h1 h2 HRo HKE HXX hm7 xs1 M1 M2 hk0 hk1 hk2 hk3
          exact WY3.out
        · revert s0 its n c w hl HN Qa w1 w2 w4 E HR Ka aa wr u4 u8 u9 u10 u11 u12 u13 u14 u15 u16 u32 u33 u34 u35 u36 u37 u38 u39 u40 u41 u42 u43 u44 u45 u46 u47 u48 u49 u50 u51 u52 u53 u54 u55 u56 u57 u58 u59 u60 u61 u62 u63 u64 u65 u66 u67 u68 u69 u70 u71 u72 u73 u74 u75 u76 u77 u78 u79 u80 u81 u82 u83 u84 u85 u86 u87 u88 u89 u90 u91 u92 u93 u94 u95 u96 u97 u98 u99 u100 u101 u102 u103 u104 u105 u106 u107 u108 u109 u110 u111 u112 u113 u114 u115 u116 u117 u118 u119 u120 u121 u122 u123 u124 u125 u126 u127 u128 u129 u130 u131 u132 u133 u134 u135 u136 u137 u138 u139 u140 u141 u142 u143 u144 u145 u146 u147 u148 u149 u150 u151 u152 u153 u154 u155 u156 u157 u158 u159 u160 u161 u162 u163 u164 u165 u166 u167 u168 u169 u170 u171 u172 u173 u174 u175 u176 u177 u178 u179 u180 u181 k s bd hk hs HBD hlt hkl ab ao HA x rt HX HSz HL Qb Kb az Kc ac w5 hE hb K hX hKE hRK g0 h1 h2 HRo HKE HXX hm7 xs1 M1 M2 hk0 hk1 hk2 hk3
          exact WY4.out
      · clear WY0 WY1 WY2 WY3 WY4
        obtain rfl : k = n := by omega
        obtain ⟨hb, hE⟩ := hS
        clear HA hE HBD
        go_wp2_with fail
        refine (blind_nil _).mono ?_
        rintro r w5 ⟨rfl, rfl⟩
        go_wp2_with fail
        refine (raw_nil_lit _ _).mono ?_
        rintro r w5 ⟨rfl, rfl⟩
        go_wp2_with fail
        refine (get_nil _ _).mono ?_
        rintro r w5 ⟨rfl, rfl⟩
        go_wp2_with fail
        refine (wide_nil _).mono ?_
        rintro r w5 ⟨rfl, rfl⟩
        go_wp2_with fail
        refine (count_nil _ _).mono ?_
        rintro r w5 ⟨rfl, rfl⟩
        go_wp2_with fail
        refine (left_nil _).mono ?_
        rintro r w5 ⟨rfl, rfl⟩
        go_wp2_with fail
        refine (name_nil _).mono ?_
        rintro r w5 ⟨rfl, hb5⟩
        replace hb := hb.trans (hb5.mono hb.size)
        clear hb5
        have hz0 := heql_zero
        go_wp2_with (with_reducible refine heql_gz (by with_unfolding_all rfl) _ _ _ rfl _ _ h0 h0 _ rfl rfl rfl h0_lit hz0 ?_)
        refine (bad_nil _).mono ?_
        rintro r w6 ⟨rfl, rfl⟩
        go_wp2_with fail
        refine (done_nil _).mono ?_
        rintro r w6 ⟨rfl, rfl⟩
        go_wp2_with fail
        go_ret
        exact ⟨rfl, hb⟩
end Go.Proofs.Ytjdhedebkpclmaa
