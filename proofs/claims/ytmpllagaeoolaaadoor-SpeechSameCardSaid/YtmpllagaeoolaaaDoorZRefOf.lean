import Derived.Test.YtmpllagaeoolaaaDoorRows
import Derived.Test.YtmpllagaeoolaaaDoorZRefNum
import Derived.Test.YtmpllagaeoolaaaDoorZRefPad
import Derived.Test.YtmpllagaeoolaaaDoorBunF
namespace Go.Proofs.YtmpllagaeoolaaaDoor
open Go.RowKit Mem Sha
theorem quo_n (x : BitVec 32) (m : Int) (hm : 0 ≤ m) : (Wd.n x).tdiv m % (4294967296 : Int) = Wd.n x / m := by
  have h1 := Wd.n_nonneg x
  have h2 := Wd.n_lt x
  rw [Int.tdiv_eq_ediv_of_nonneg h1]
  have h3 : 0 ≤ Wd.n x / m := Int.ediv_nonneg h1 hm
  have h4 : Wd.n x / m ≤ Wd.n x := Int.ediv_le_self _ h1
  omega
theorem quo8 (x : BitVec 32) : (Wd.n x).tdiv 8 % (4294967296 : Int) = Wd.n (x >>> 3) := by rw [quo_n x 8 (by omega), Wd.shr3]
theorem quo1024 (x : BitVec 32) : (Wd.n x).tdiv 1024 % (4294967296 : Int) = Wd.n (x >>> 10) := by rw [quo_n x 1024 (by omega), Wd.shr10]
attribute [local go_sem] quo8 quo1024 Wd.not Wd.not' Wd.notSub Wd.add Wd.and Wd.or Wd.xor Wd.shl Wd.shr Wd.shr3 Wd.shr10 wrap_mul256 add_byte add_byte'

/-- what stands while ref's Of goes on: out, h and the block's words -/
structure Rw (w wr : World) (g : Nat → W32) (wb : Nat) (f : Nat → W32) : Prop where
  below : Below w.heap.size w wr
  out : Has wr w.heap.size hz32 24
  h : Has wr (w.heap.size + 1) (words g 8) 107
  wrd : Has wr wb (words f 64) 108
  ge : w.heap.size + 1 < wb
/-- the same, with the rounds' state -/
structure Rr (w wr : World) (g : Nat → W32) (wb : Nat) (f : Nat → W32) (sb : Nat) (t : S8) : Prop where
  rw : Rw w wr g wb f
  s : Has wr sb (words t.at 8) 107
  ge : wb < sb
/-- between the blocks -/
structure Rh (w wr : World) (g : Nat → W32) : Prop where
  below : Below w.heap.size w wr
  out : Has wr w.heap.size hz32 24
  h : Has wr (w.heap.size + 1) (words g 8) 107
theorem Rw.rh {w wr : World} {g : Nat → W32} {wb : Nat} {f : Nat → W32} (h : Rw w wr g wb f) : Rh w wr g := ⟨h.below, h.out, h.h⟩
theorem Rw.set {w wr : World} {g : Nat → W32} {wb : Nat} {f : Nat → W32} (h : Rw w wr g wb f) (i : Nat) (x : W32) : Rw w (wr.setCell ⟨wb, i, none⟩ (.int .u32 (Wd.n x))) g wb (upd f i x) :=
  have := h.ge
  ⟨h.below.setCell (by simp; omega) _, h.out.other _ _ (by simp; omega), h.h.other _ _ (by simp; omega), h.wrd.setWord _, h.ge⟩
theorem Rw.drew {w wr : World} {g : Nat → W32} {wb : Nat} {f : Nat → W32} (h : Rw w wr g wb f) : Rw w wr.drew g wb f :=
  ⟨h.below.drew, h.out.drew, h.h.drew, h.wrd.drew, h.ge⟩
theorem add_byteM (x : BitVec 32) (b : UInt8) : (Wd.n (x <<< 8) + (b.toNat : Int)) % (4294967296 : Int) = Wd.n (x <<< 8 ||| ofByte b) := by
  rw [← add_byte, IntKind.wrap_u32']
theorem Rr.drewN {w wr : World} {g : Nat → W32} {wb : Nat} {f : Nat → W32} {sb : Nat} {t : S8} (h : Rr w wr g wb f sb t) (n : Nat) : Rr w (wr.drewN n) g wb f sb t :=
  ⟨⟨below_drewN h.rw.below n, h.rw.out.drewN n, h.rw.h.drewN n, h.rw.wrd.drewN n, h.rw.ge⟩, h.s.drewN n, h.ge⟩
theorem Rr.drew {w wr : World} {g : Nat → W32} {wb : Nat} {f : Nat → W32} {sb : Nat} {t : S8} (h : Rr w wr g wb f sb t) : Rr w wr.drew g wb f sb t :=
  ⟨⟨h.rw.below.drew, h.rw.out.drew, h.rw.h.drew, h.rw.wrd.drew, h.rw.ge⟩, h.s.drew, h.ge⟩
theorem Rr.row {w wr : World} {g : Nat → W32} {wb : Nat} {f : Nat → W32} {sb : Nat} {t : S8} (h : Rr w wr g wb f sb t) (t' : S8) : Rr w (wr.setRow sb (words t'.at 8)) g wb f sb t' :=
  have h1 := h.ge
  have h2 := h.rw.ge
  ⟨⟨below_setRow h.rw.below (by omega) _, h.rw.out.otherRow _ _ (by omega), h.rw.h.otherRow _ _ (by omega), h.rw.wrd.otherRow _ _ (by omega), h.rw.ge⟩, h.s.row _, h.ge⟩
theorem Rr.lit {w wr : World} {g : Nat → W32} {wb : Nat} {f : Nat → W32} {sb : Nat} {t : S8} (h : Rr w wr g wb f sb t) (X Y : W32) :
    Rr w (wr.setRow sb #[.int .u32 (Wd.n (X + Y)), .int .u32 (Wd.n (t.at 0)), .int .u32 (Wd.n (t.at 1)), .int .u32 (Wd.n (t.at 2)), .int .u32 (Wd.n (t.at 3 + X)), .int .u32 (Wd.n (t.at 4)), .int .u32 (Wd.n (t.at 5)), .int .u32 (Wd.n (t.at 6))]) g wb f sb ⟨X + Y, t.at 0, t.at 1, t.at 2, t.at 3 + X, t.at 4, t.at 5, t.at 6⟩ :=
  h.row ⟨X + Y, t.at 0, t.at 1, t.at 2, t.at 3 + X, t.at 4, t.at 5, t.at 6⟩
theorem Rr.seth {w wr : World} {g : Nat → W32} {wb : Nat} {f : Nat → W32} {sb : Nat} {t : S8} (h : Rr w wr g wb f sb t) (i : Nat) (x : W32) : Rr w (wr.setCell ⟨w.heap.size + 1, i, none⟩ (.int .u32 (Wd.n x))) (upd g i x) wb f sb t :=
  have h1 := h.ge
  have h2 := h.rw.ge
  ⟨⟨h.rw.below.setCell (by simp) _, h.rw.out.other _ _ (by simp), h.rw.h.setWord _, h.rw.wrd.other _ _ (by simp; omega), h.rw.ge⟩, h.s.other _ _ (by simp; omega), h.ge⟩
/-- while the name's bytes are laid -/
structure Ro (w wr : World) (st : S8) (O k : Nat) : Prop where
  below : Below w.heap.size w wr
  res : Has wr w.heap.size hz32 24
  h : Has wr (w.heap.size + 1) (words st.at 8) 107
  out : Has wr O (bytesV (nameTo st k)) 24
  ge : w.heap.size + 1 < O
theorem nameByte2 (x : BitVec 32) (m : Nat) : (Wd.n (x >>> m)).tmod 256 % 256 = ((UInt8.ofNat (x.toNat / 2 ^ m % 256)).toNat : Int) := by
  have e : Wd.n (x >>> m) = ((x.toNat / 2 ^ m : Nat) : Int) := by unfold Wd.n; rw [BitVec.toNat_ushiftRight, Nat.shiftRight_eq_div_pow]
  rw [e, UInt8.toNat_ofNat', Int.tmod_eq_emod_of_nonneg (Int.natCast_nonneg _)]
  generalize x.toNat / 2 ^ m = q
  omega
theorem Ro.next {w wr : World} {st : S8} {O k : Nat} (h : Ro w wr st O k) (hk : k < 32) : Ro w (wr.setCell ⟨O, k, none⟩ (.int .u8 ((Wd.n (st.at (k / 4) >>> (24 - 8 * (k % 4)))).tmod 256 % 256))) st O (k + 1) :=
  have h1 := h.ge
  ⟨h.below.setCell (by simp; omega) _, h.res.other _ _ (by simp; omega), h.h.other _ _ (by simp; omega), by
    rw [nameByte2, ← nameTo_next _ _ hk, ← bytesV_set]
    exact h.out.set _, h.ge⟩
theorem index_str (p : ByteArray) (i : Nat) (b : UInt8) (h : p.data.toList[i]? = some b) (w : World) :
    (Instr.index 9 (.string p) (.int .i64 (i : Int))).run Tryd.prog w = .ok (.int .u8 (b.toNat : Int)) w := by
  have hi : i < p.size := by
    rw [Lib.size_eq]
    by_cases hh : i < p.data.toList.length
    · exact hh
    · rw [List.getElem?_eq_none (by omega)] at h; cases h
  rw [run_index_string w 9 p .i64 _ Tryd.underlying9, dif_pos ⟨by omega, by omega⟩]
  have e : p[i]'hi = b := by
    have : p.data.toList[i]'(by rw [← Lib.size_eq]; exact hi) = b := by
      rw [List.getElem?_eq_getElem (by rw [← Lib.size_eq]; exact hi)] at h; exact Option.some.inj h
    rw [← this]; simp; rfl
  simp [e]
theorem Rw.drewN {w wr : World} {g : Nat → W32} {wb : Nat} {f : Nat → W32} (h : Rw w wr g wb f) (n : Nat) : Rw w (wr.drewN n) g wb f :=
  ⟨below_drewN h.below n, h.out.drewN n, h.h.drewN n, h.wrd.drewN n, h.ge⟩

/-- the first sixteen words, half written -/
structure Wf (bl : List UInt8) (f : Nat → W32) (k j : Nat) : Prop where
  lo : ∀ i, i < k → f i = blockWord bl i
  here : f k = wordOf ((bl.drop (4 * k)).take j)
  hi : ∀ i, k < i → f i = 0
theorem Wf.next {bl : List UInt8} {f : Nat → W32} {k j : Nat} (h : Wf bl f k j) (hl : 4 * k + j < bl.length) : Wf bl (upd f k (f k <<< 8 ||| ofByte bl[4 * k + j])) k (j + 1) where
  lo i hi := by unfold upd; rw [if_neg (by omega)]; exact h.lo i hi
  here := by
    unfold upd
    rw [if_pos rfl, h.here, List.take_succ_eq_append_getElem (by simp; omega)]
    simp [wordOf, List.foldl_append]
  hi i hi := by unfold upd; rw [if_neg (by omega)]; exact h.hi i hi
theorem Wf.word {bl : List UInt8} {f : Nat → W32} {k : Nat} (h : Wf bl f k 4) : Wf bl f (k + 1) 0 where
  lo i hi := by
    by_cases e : i = k
    · subst e; exact h.here
    · exact h.lo i (by omega)
  here := by rw [h.hi (k + 1) (by omega)]; simp [wordOf]
  hi i hi := h.hi i (by omega)

theorem ending_len (n : Nat) : (Sha.ending n).length = 9 + (119 - n % 64) % 64 := by
  simp [Sha.ending, Sha.lenBytes]; omega

section
variable {w : World} {ops : Array Oper} {rest : List Oper} {o : Oper} {a : Act} {Q : Exit → Act → World → Prop}
theorem w8_load (hgd : o.guard = none) (x : Operand) (ho : o.op = .load 107 x) (g : Nat) (hx : a.eval x = .pointer (some ⟨g, 0, none⟩)) (cs : Array Value) (hg : Has w g cs 107) (hs : cs.size = 8)
    (h : wpList Tryd.prog ops Q rest (a.put o.dst (.agg cs)) w) : wpList Tryd.prog ops Q (o :: rest) a w :=
  wpList_load_row hgd 107 x ho g hx 107 cs (0, 0) _ hg.out Tryd.underlying107 rfl (info42.trans (by rw [hs])) h
theorem w8_store (hgd : o.guard = none) (x y : Operand) (ho : o.op = .store 107 x y) (g : Nat) (cs' : Array Value) (hx : a.eval x = .pointer (some ⟨g, 0, none⟩)) (hy : a.eval y = .agg cs') (hs' : cs'.size = 8) (h1 : cs'.all (·.oneCell') = true) (cs : Array Value) (hg : Has w g cs 107) (hs : cs.size = 8)
    (h : wpList Tryd.prog ops Q rest (a.put o.dst undef) (w.setRow g cs')) : wpList Tryd.prog ops Q (o :: rest) a w :=
  wpList_store_row hgd 107 x y ho g cs' hx hy 107 cs hg.out (info42.trans (by rw [hs'])) (by rw [hs, hs']) h1 h
theorem w8_store_lit (hgd : o.guard = none) (x y : Operand) (ho : o.op = .store 107 x y) (g : Nat) (a0 a1 a2 a3 a4 a5 a6 a7 : Int) (hx : a.eval x = .pointer (some ⟨g, 0, none⟩))
    (hy : a.eval y = .agg #[.int .u32 a0, .int .u32 a1, .int .u32 a2, .int .u32 a3, .int .u32 a4, .int .u32 a5, .int .u32 a6, .int .u32 a7]) (cs : Array Value) (hg : Has w g cs 107) (hs : cs.size = 8)
    (h : wpList Tryd.prog ops Q rest (a.put o.dst undef) (w.setRow g #[.int .u32 a0, .int .u32 a1, .int .u32 a2, .int .u32 a3, .int .u32 a4, .int .u32 a5, .int .u32 a6, .int .u32 a7])) : wpList Tryd.prog ops Q (o :: rest) a w :=
  w8_store hgd x y ho g _ hx hy rfl (by simp [Value.oneCell']) cs hg hs h
end
def zero8 : Array Value := #[.int .u32 0, .int .u32 0, .int .u32 0, .int .u32 0, .int .u32 0, .int .u32 0, .int .u32 0, .int .u32 0]
set_option maxRecDepth 100000 in
set_option maxHeartbeats 1000000 in
theorem ref_of (s : ByteArray) (hs : s.size ≤ 1048576) (w : World) :
    Calls Tryd.prog 60 #[.string s] w fun e w' => e = .returned (.agg (bytesV (sha s.data.toList))) ∧ Below w.heap.size w w' := by
  go_enter Tryd.func60, Tryd.ntmps60
  go_upto_region 2 with fail
  generalize hw1 : World.alloc _ _ = w1
  have hR : Rh w w1 Sha.start.at := by
    rw [← hw1]
    refine ⟨((Below.refl _ _).alloc (Nat.le_refl _) _).alloc (by simp) _, (Has.new _ _).alloc _, ?_⟩
    have := Has.new (w := w.alloc (.cells hz32 24)) (words Sha.start.at 8) 107
    rw [World.size_alloc] at this
    exact this
  clear hw1
  generalize hag : (#[Value.int IntKind.u32 1779033703, Value.int IntKind.u32 3144134277, Value.int IntKind.u32 1013904242, Value.int IntKind.u32 2773480762, Value.int IntKind.u32 1359893119, Value.int IntKind.u32 2600822924, Value.int IntKind.u32 528734635, Value.int IntKind.u32 1541459225] : Array Value) = ag
  clear hag
  go_wp2_with fail
  refine (ref_padded s hs w1).mono ?_
  rintro e w2 ⟨⟨p, rfl, hp⟩, hb2⟩
  have hR2 : Rh w w2 Sha.start.at := ⟨hR.below.trans (hb2.mono hR.below.size), below_has hb2 hR.out hR.out.lt, below_has hb2 hR.h hR.h.lt⟩
  obtain ⟨l, hl⟩ : ∃ l, l = s.data.toList ++ Sha.ending s.data.toList.length := ⟨_, rfl⟩
  have hsha : sha s.data.toList = nameOf (pressAll (l.length / 64) Sha.start l) := by rw [hl]; rfl
  rw [← hl] at hp
  have hpl : p.size = l.length := by rw [Lib.size_eq, hp]
  obtain ⟨n, hn⟩ : ∃ n, l.length = 64 * n := ⟨l.length / 64, by rw [hl, List.length_append, ending_len]; omega⟩
  have hps : p.size = 64 * n := by omega
  have hnm : n ≤ 16400 := by
    have : l.length ≤ s.size + 73 := by rw [hl, List.length_append, ending_len, ← Lib.size_eq]; omega
    omega
  have hsha2 : sha s.data.toList = nameOf (pressAll n Sha.start l) := by rw [hsha, hn]; congr 2; omega
  have HSH := Lib.hid hsha2
  have HP := Lib.hid hp
  have HN := Lib.hid hn
  have HL := Lib.hid hpl
  clear hl hsha hsha2 hp hn hpl hR hb2 hs
  go_wp2_with fail
  go_loopw [5] (fun i wr => ∃ m : Nat, m ≤ n ∧ i = .int .i64 ((64 * m : Nat) : Int) ∧ Rh w wr (pressAll m Sha.start l).at) (fun i _ => 64 * n - (intOf i).toNat)
  case atStart => exact ⟨0, by omega, rfl, hR2⟩
  case round =>
    obtain ⟨m, hm, rfl, hr⟩ := hrel
    generalize hst : pressAll m Sha.start l = st at hr
    have HST := Lib.hid hst
    clear hst hR2
    by_cases hlt : m < n
    · obtain ⟨bl, hbl⟩ : ∃ bl, bl = (l.drop (64 * m)).take 64 := ⟨_, rfl⟩
      have hbll : bl.length = 64 := by rw [hbl, List.length_take, List.length_drop, HN.out]; omega
      have HB := Lib.hid hbl
      clear hbl
      go_upto_region 7 with fail
      generalize hw3 : World.alloc _ _ = w3
      have hrw : Rw w w3 st.at wr.heap.size (fun _ => 0) := by
        rw [← hw3]
        refine ⟨hr.below.alloc hr.below.size _, hr.out.alloc _, hr.h.alloc _, Has.new _ _, hr.h.lt⟩
      clear hw3 hr
      generalize wr.heap.size = wb at *
      clear wr
      go_wp2_with fail
      go_loopw [7] (fun i wr => ∃ k : Nat, k ≤ 16 ∧ i = .int .i64 k ∧ ∃ f, Rw w wr st.at wb f ∧ Wf bl f k 0) (fun i _ => 16 - (intOf i).toNat)
      case atStart => exact ⟨0, by omega, rfl, _, hrw, ⟨fun i hi => absurd hi (by omega), by simp [wordOf], fun _ _ => rfl⟩⟩
      case round =>
        clear hrw
        obtain ⟨k, hk, rfl, f, hf, hw⟩ := hrel
        by_cases hkl : k < 16
        · go_wp2_with fail
          go_loopw [8] (fun i wr => ∃ j : Nat, j ≤ 4 ∧ i = .int .i64 j ∧ ∃ f, Rw w wr st.at wb f ∧ Wf bl f k j) (fun i _ => 4 - (intOf i).toNat)
          case atStart => exact ⟨0, by omega, rfl, f, hf, hw⟩
          case round =>
            clear hf hw
            obtain ⟨j, hj, rfl, f, hf, hw⟩ := hrel
            by_cases hjl : j < 4
            · have c2 := hf.wrd.word k (by omega)
              have c3 := hf.wrd.free k
              have hbb : 4 * k + j < bl.length := by omega
              have hpi : p.data.toList[64 * m + 4 * k + j]? = some bl[4 * k + j] := by
                rw [HP.out, ← List.getElem?_eq_getElem hbb, HB.out, List.getElem?_take_of_lt (by omega), List.getElem?_drop]
                congr 1; omega
              have hidx : ∀ w, (Instr.index 9 (.string p) (.int .i64 (64 * (m : Int) + 4 * (k : Int) + (j : Int)))).run Tryd.prog w = .ok (.int .u8 (bl[4 * k + j].toNat : Int)) w := fun w => by
                have := index_str p (64 * m + 4 * k + j) bl[4 * k + j] hpi w
                simpa using this
              have e1 : IntKind.i64.wrap (4 * (k : Int)) = 4 * (k : Int) := IntWalk.i64_in _ (by omega)
              have e2 : IntKind.i64.wrap (64 * (m : Int) + 4 * (k : Int)) = 64 * (m : Int) + 4 * (k : Int) := IntWalk.i64_in _ (by omega)
              have e3 : IntKind.i64.wrap (64 * (m : Int) + 4 * (k : Int) + (j : Int)) = 64 * (m : Int) + 4 * (k : Int) + (j : Int) := IntWalk.i64_in _ (by omega)
              clear hpi
              have hwn := hw.next hbb
              generalize bl[4 * k + j] = bb at *
              have HWN := Lib.hid hwn
              clear hw hwn
              go_wp2_with fail
              go_region
              go_wp2_with fail
              clear hidx
              refine ⟨⟨j + 1, by omega, by go_num, _, ?_, HWN.out⟩, by simp [intOf]; omega⟩
              rw [add_byteM]
              exact (hf.set k _).drew
            · obtain rfl : j = 4 := by omega
              go_wp2_with fail
              exact ⟨⟨k + 1, by omega, by go_num, f, hf, hw.word⟩, by simp [intOf]; omega⟩
        · obtain rfl : k = 16 := by omega
          have ht : ∀ i, i < 16 → f i = sched (blockWord bl) i := fun i hi => by rw [hw.lo i hi, sched_first _ _ hi]
          have HT := Lib.hid ht
          clear hw ht
          go_wp2_with fail
          go_loopw [9] (fun i wr => ∃ k : Nat, 16 ≤ k ∧ k ≤ 64 ∧ i = .int .i64 k ∧ ∃ f, Rw w wr st.at wb f ∧ Hid (∀ i, i < k → f i = sched (blockWord bl) i)) (fun i _ => 64 - (intOf i).toNat)
          case atStart => exact ⟨16, by omega, by omega, rfl, f, hf, HT⟩
          case round =>
            clear hf HT
            obtain ⟨k, hk16, hk, rfl, f, hf, HF⟩ := hrel
            by_cases hlt2 : k < 64
            · have c1 := hf.wrd.word (k - 15) (by omega)
              have c2 := hf.wrd.word (k - 2) (by omega)
              have c3 := hf.wrd.word (k - 16) (by omega)
              have c4 := hf.wrd.word (k - 7) (by omega)
              have c5 := hf.wrd.free k
              have b1 : IntKind.i64.wrap ((k : Int) - 15) = (k : Int) - 15 := IntWalk.i64_in _ (by omega)
              have b2 : IntKind.i64.wrap ((k : Int) - 2) = (k : Int) - 2 := IntWalk.i64_in _ (by omega)
              have b3 : IntKind.i64.wrap ((k : Int) - 16) = (k : Int) - 16 := IntWalk.i64_in _ (by omega)
              have b4 : IntKind.i64.wrap ((k : Int) - 7) = (k : Int) - 7 := IntWalk.i64_in _ (by omega)
              have a1 : (0 : Int) ≤ (k : Int) - 15 := by omega
              have a2 : (0 : Int) ≤ (k : Int) - 2 := by omega
              have a3 : (0 : Int) ≤ (k : Int) - 16 := by omega
              have a4 : (0 : Int) ≤ (k : Int) - 7 := by omega
              have t1 : ((k : Int) - 15).toNat = k - 15 := by omega
              have t2 : ((k : Int) - 2).toNat = k - 2 := by omega
              have t3 : ((k : Int) - 16).toNat = k - 16 := by omega
              have t4 : ((k : Int) - 7).toNat = k - 7 := by omega
              have l1 : (k : Int) - 15 < 64 := by omega
              have l2 : (k : Int) - 2 < 64 := by omega
              have l3 : (k : Int) - 16 < 64 := by omega
              have l4 : (k : Int) - 7 < 64 := by omega
              go_wp2_with fail
              go_quiet ((go_at_call 78; exact quiet_eq (ref_right _ _ (by omega) (by omega) _)))
              replace c2 := (hf.wrd.drewN nq).word (k - 2) (by omega)
              replace c3 := (hf.wrd.drewN nq).word (k - 16) (by omega)
              replace c4 := (hf.wrd.drewN nq).word (k - 7) (by omega)
              replace c5 := (hf.wrd.drewN nq).free k
              generalize hw1 : wr.drewN nq = wq at c2 c3 c4 c5
              have hfq : Rw w wq st.at wb f := by rw [← hw1]; exact hf.drewN nq
              have c6 := hfq.wrd.word k (by omega)
              clear c1 hf hw1
              go_wp2_with fail
              go_quiet ((go_at_call 78; exact quiet_eq (ref_right _ _ (by omega) (by omega) _)))
              go_wp2_with fail
              go_region
              go_wp2_with fail
              refine ⟨⟨k + 1, by omega, by omega, by go_num, _, (hfq.drewN _).set k _, ?_⟩, by simp [intOf]; omega⟩
              intro i hi
              unfold upd
              by_cases e : i = k
              · rw [if_pos e, e, sched_next _ k hk16 hlt2, HF.out _ (by omega), HF.out _ (by omega), HF.out _ (by omega), HF.out _ (by omega)]
                rfl
              · rw [if_neg e]; exact HF.out i (by omega)
            · obtain rfl : k = 64 := by omega
              have hf64 : Rw w wr st.at wb (sched (blockWord bl)) := ⟨hf.below, hf.out, hf.h, by rw [← words_congr HF.out]; exact hf.wrd, hf.ge⟩
              clear hf HF
              have hZ : Has (wr.alloc (.cells #[.int .u32 0, .int .u32 0, .int .u32 0, .int .u32 0, .int .u32 0, .int .u32 0, .int .u32 0, .int .u32 0] 107)) wr.heap.size zero8 107 := Has.new _ _
              have hz8 : zero8.size = 8 := rfl
              have hH := hf64.h
              have HS : (words st.at 8).size = 8 := words_size _ _
              have HO := words_one st.at 8
              have H1 := Lib.hid HO
              have hrr : Rr w ((wr.alloc (.cells #[.int .u32 0, .int .u32 0, .int .u32 0, .int .u32 0, .int .u32 0, .int .u32 0, .int .u32 0, .int .u32 0] 107)).setRow wr.heap.size (words st.at 8)) st.at wb (sched (blockWord bl)) wr.heap.size st := by
                have hz := hf64.wrd.lt
                exact ⟨⟨below_setRow (hf64.below.alloc hf64.below.size _) hf64.below.size _, (hf64.out.alloc _).otherRow _ _ (by have := hf64.out.lt; omega), (hf64.h.alloc _).otherRow _ _ (by have := hf64.h.lt; omega), (hf64.wrd.alloc _).otherRow _ _ (by omega), hf64.ge⟩, (Has.new _ _).row _, hz⟩
              clear HO hf64
              generalize words st.at 8 = cs at hH HS H1 hrr ⊢
              go_upto_region 21 with (first
                | (with_reducible refine w8_load rfl _ rfl _ rfl cs hH HS ?_)
                | (with_reducible refine w8_store rfl _ _ rfl _ cs rfl rfl HS H1.out zero8 hZ hz8 ?_))
              generalize World.setRow _ _ _ = w4 at hrr ⊢
              clear hH HS H1 hZ hz8
              generalize wr.heap.size = sb at *
              go_wp2_with fail
              go_loopw [13] (fun i wr => ∃ k : Nat, k ≤ 64 ∧ i = .int .i64 k ∧ ∃ t, Rr w wr st.at wb (sched (blockWord bl)) sb t ∧ Hid (t = rounds st (sched (blockWord bl)) k)) (fun i _ => 64 - (intOf i).toNat)
              case atStart => exact ⟨0, by omega, rfl, st, hrr, rfl⟩
              case round =>
                clear hrr
                obtain ⟨k, hk, rfl, t, ht, HR⟩ := hrel
                by_cases hlt3 : k < 64
                · have c0 := ht.s.word 0 (by omega)
                  have c1 := ht.s.word 1 (by omega)
                  have c2 := ht.s.word 2 (by omega)
                  have c3 := ht.s.word 3 (by omega)
                  have c4 := ht.s.word 4 (by omega)
                  have c5 := ht.s.word 5 (by omega)
                  have c6 := ht.s.word 6 (by omega)
                  have c7 := ht.s.word 7 (by omega)
                  have cw := ht.rw.wrd.word k hlt3
                  go_wp2_with fail
                  go_quiet (first
                    | (go_at_call 78; exact quiet_eq (ref_right _ _ (by omega) (by omega) _))
                    | (go_at_call 79; exact quiet_eq (ref_k _ hlt3 _)))
                  generalize hX : t.at 7 + (BitVec.rotateRight (t.at 4) 6 ^^^ BitVec.rotateRight (t.at 4) 11 ^^^ BitVec.rotateRight (t.at 4) 25) + (t.at 4 &&& t.at 5 ||| ~~~t.at 4 &&& t.at 6) + kAt k + sched (blockWord bl) k = X
                  have HX := Lib.hid hX
                  generalize hw5 : wr.drewN nq = w5
                  have ht5 : Rr w w5 st.at wb (sched (blockWord bl)) sb t := by rw [← hw5]; exact ht.drewN nq
                  clear c0 c1 c2 c3 c4 c5 c6 c7 cw hw5 ht hX
                  have c0 := ht5.s.word 0 (by omega)
                  have c1 := ht5.s.word 1 (by omega)
                  have c2 := ht5.s.word 2 (by omega)
                  go_wp2_with fail
                  go_quiet ((go_at_call 78; exact quiet_eq (ref_right _ _ (by omega) (by omega) _)))
                  generalize hY : (BitVec.rotateRight (t.at 0) 2 ^^^ BitVec.rotateRight (t.at 0) 13 ^^^ BitVec.rotateRight (t.at 0) 22) + (t.at 0 &&& t.at 1 ||| t.at 0 &&& t.at 2 ||| t.at 1 &&& t.at 2) = Y
                  have HY := Lib.hid hY
                  generalize hw6 : w5.drewN nq = w6
                  have ht6 : Rr w w6 st.at wb (sched (blockWord bl)) sb t := by rw [← hw6]; exact ht5.drewN nq
                  clear c0 c1 c2 hw6 ht5 hY
                  have c0 := ht6.s.word 0 (by omega)
                  have c1 := ht6.s.word 1 (by omega)
                  have c2 := ht6.s.word 2 (by omega)
                  have c3 := ht6.s.word 3 (by omega)
                  have c4 := ht6.s.word 4 (by omega)
                  have c5 := ht6.s.word 5 (by omega)
                  have c6 := ht6.s.word 6 (by omega)
                  have hs8 : (words t.at 8).size = 8 := words_size _ _
                  have hts := ht6.s
                  go_wp2_with (with_reducible refine w8_store_lit rfl _ _ rfl _ _ _ _ _ _ _ _ _ rfl rfl _ hts hs8 ?_)
                  go_roundw
                  case rel => exact ⟨k + 1, by omega, by go_num, ⟨X + Y, t.at 0, t.at 1, t.at 2, t.at 3 + X, t.at 4, t.at 5, t.at 6⟩, ht6.lit X Y, Lib.hid (by rw [← HX.out, ← HY.out, HR.out]; rfl)⟩
                  case measure => simp [intOf]; omega
                · obtain rfl : k = 64 := by omega
                  go_wp2_with fail
                  go_loopw [16] (fun i wr => ∃ k : Nat, k ≤ 8 ∧ i = .int .i64 k ∧ ∃ g, Rr w wr g wb (sched (blockWord bl)) sb t ∧ Hid (∀ j, g j = if j < k then st.at j + t.at j else st.at j)) (fun i _ => 8 - (intOf i).toNat)
                  case atStart => exact ⟨0, by omega, rfl, st.at, ht, Lib.hid fun j => by rw [if_neg (by omega)]⟩
                  case round =>
                    clear ht
                    obtain ⟨k, hk, rfl, g, hg, HG⟩ := hrel
                    by_cases hlt4 : k < 8
                    · have c1 := hg.rw.h.word k hlt4
                      have c2 := hg.s.word k hlt4
                      have c3 := hg.rw.h.free k
                      have hkI : (k : Int) < 8 := by omega
                      have e : g k = st.at k := by rw [HG.out, if_neg (by omega)]
                      have E1 := Lib.hid e
                      clear e
                      go_wp2_with fail
                      go_region
                      all_goals
                        first | go_wp2_with fail | skip
                        go_roundw
                        case rel => exact ⟨k + 1, by omega, by go_num, _, (hg.seth k (g k + t.at k)).drew, Lib.hid fun j => by
                          unfold upd
                          by_cases e : j = k
                          · rw [if_pos e, e, if_pos (by omega), E1.out]
                          · rw [if_neg e, HG.out]
                            by_cases h2 : j < k
                            · rw [if_pos h2, if_pos (by omega)]
                            · rw [if_neg h2, if_neg (by omega)]⟩
                        case measure => simp [intOf]; omega
                    · obtain rfl : k = 8 := by omega
                      have e : words g 8 = words (press st bl).at 8 := words_congr fun j hj => by
                        rw [HG.out, if_pos hj, press, ← HR.out]
                        match j, hj with
                        | 0, _ => rfl
                        | 1, _ => rfl
                        | 2, _ => rfl
                        | 3, _ => rfl
                        | 4, _ => rfl
                        | 5, _ => rfl
                        | 6, _ => rfl
                        | 7, _ => rfl
                      have hnx : pressAll (m + 1) Sha.start l = press st bl := by rw [pressAll_succ, HST.out, ← HB.out]
                      have hrh : Rh w wr (pressAll (m + 1) Sha.start l).at := ⟨hg.rw.below, hg.rw.out, by rw [hnx, ← e]; exact hg.rw.h⟩
                      clear e hnx hg HG
                      go_wp2_with fail
                      go_roundw
                      case rel => exact ⟨m + 1, by omega, by go_num, hrh⟩
                      case measure => simp [intOf]; omega
    · obtain rfl : m = n := by omega
      have hsha : sha s.data.toList = nameOf st := by rw [HSH.out, HST.out]
      have HSH2 := Lib.hid hsha
      clear hsha HSH HST hlt
      go_upto_region 32 with fail
      generalize hw3 : World.alloc _ _ = w3
      have hro : Ro w w3 st wr.heap.size 0 := by
        rw [← hw3]
        exact ⟨hr.below.alloc hr.below.size _, hr.out.alloc _, hr.h.alloc _, by rw [hz32_eq]; exact Has.new _ _, hr.h.lt⟩
      clear hw3 hr
      generalize wr.heap.size = O at *
      go_wp2_with fail
      go_loopw [18] (fun i wr => ∃ k : Nat, k ≤ 32 ∧ i = .int .i64 k ∧ Ro w wr st O k) (fun i _ => 32 - (intOf i).toNat)
      case atStart => exact ⟨0, by omega, rfl, hro⟩
      case round =>
        clear hro
        obtain ⟨k, hk, rfl, hs⟩ := hrel
        by_cases hlt : k < 32
        · have c1 := hs.h.word (k / 4) (by omega)
          have c2 := hs.out.byte k (by rw [nameTo_length _ _ (by omega)]; omega)
          have c3 := hs.out.free k
          go_wp2_with fail
          go_roundw
          case rel => exact ⟨k + 1, by omega, by go_num, hs.next hlt⟩
          case measure => simp [intOf]; omega
        · obtain rfl : k = 32 := by omega
          have hout := hs.out
          have hbel := hs.below
          have hres := hs.res
          have e : nameTo st 32 = nameOf st := by simp [nameTo, List.take_of_length_le, nameOf_length]
          rw [e, ← HSH2.out] at hout
          have hl32 : (sha s.data.toList).length = 32 := by rw [HSH2.out]; exact nameOf_length _
          clear hs e
          have HZ := Lib.hid (bytesV_one (sha s.data.toList))
          have hsz : some (bytesV (sha s.data.toList)).size = some 32 := by rw [bytesV_size, hl32]
          have HS := Lib.hid hsz
          have HRS := Lib.hid hz32_size
          clear hsz hl32
          generalize hcs : bytesV (sha s.data.toList) = cs at *
          go_wp2_with (first
            | (with_reducible refine wpList_load_row rfl 24 _ rfl _ rfl 24 cs (0, 0) _ hout.out Tryd.underlying24 rfl (infoHash.trans HS.out.symm) ?_)
            | (with_reducible refine wpList_store_row rfl 24 _ _ rfl _ _ rfl rfl 24 _ hres.out (infoHash.trans HS.out.symm) (HRS.out.trans (Option.some.inj HS.out).symm) HZ.out ?_))
          exact bodyPost_ret (v := .agg cs) (results_cell_row Tryd.results60 _ _ w.heap.size 24 cs (0, 0) _ rfl (hres.row cs).out Tryd.underlying24 rfl (infoHash.trans HS.out.symm)) rfl ⟨by rw [hcs], below_setRow hbel (by omega) _⟩
end Go.Proofs.YtmpllagaeoolaaaDoor
