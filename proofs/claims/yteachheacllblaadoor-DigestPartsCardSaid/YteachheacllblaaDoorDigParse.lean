/-
  digest.Parse, of every text.
-/
import Derived.Test.YteachheacllblaaDoorParseMath
import Derived.Test.YteachheacllblaaDoorDigOf
namespace Go.Proofs.YteachheacllblaaDoor
open Go.RowKit Mem Sha
/-- what is answered: a name whose digits the text is, or none -/
def Parsed (s : List UInt8) (l : List UInt8) (c : Int) : Prop := (c = 0 ∧ l.length = 32 ∧ digs l 32 = s) ∨ (c = 4 ∧ l = List.replicate 32 0 ∧ ∀ l', digs l' 32 ≠ s)
theorem hz32_list : bytesV (List.replicate 32 0) = hz32 := rfl
structure Ps (w wr : World) (R H I : Nat) (s : ByteArray) (k : Nat) : Prop where
  below : Below w.heap.size w wr
  res : Has wr R hz32 24
  h : Has wr H (bytesV (parsed s.data.toList k)) 24
  it : wr.heap[I]? = some (.stringIter s k)
theorem Ps.next {w wr : World} {R H I : Nat} {s : ByteArray} {k : Nat} (h : Ps w wr R H I s k) (hk : k < 64) (hI : w.heap.size ≤ I) (hH : w.heap.size ≤ H) (h1 : R ≠ I) (h2 : H ≠ I) (h3 : R ≠ H) (z : Int) (hz : z = ((pval s.data.toList (k + 1) (k / 2) : Nat) : Int)) :
    Ps w ((wr.iterAt I s (k + 1)).setCell ⟨H, 31 - k / 2, none⟩ (.int .u8 z)) R H I s (k + 1) where
  below := (Lib.below_iterAt h.below hI s _).setCell hH _
  res := Has.other (show Has (wr.iterAt I s (k + 1)) R hz32 24 from (Lib.iterAt_other _ _ _ _ _ h1).trans h.res) _ _ h3
  h := by
    have e : Has (wr.iterAt I s (k + 1)) H (bytesV (parsed s.data.toList k)) 24 := (Lib.iterAt_other _ _ _ _ _ h2).trans h.h
    have e2 := e.set (i := 31 - k / 2) (.int .u8 ((UInt8.ofNat (pval s.data.toList (k + 1) (k / 2))).toNat : Int))
    rw [bytesV_set, parsed_next _ _ hk, UInt8.toNat_ofNat', Nat.mod_eq_of_lt (pval_lt _ _ _), ← hz] at e2
    exact e2
  it := by
    rw [heap_setCell_other _ _ _ _ (Ne.symm h2)]
    exact Lib.iterAt_heap _ _ _ _ _ h.it
theorem h_load {w : World} {ops : Array Oper} {rest : List Oper} {o : Oper} {a : Act} {Q : Exit → Act → World → Prop} (hgd : o.guard = none) (x : Operand) (ho : o.op = .load 24 x) (g : Nat) (hx : a.eval x = .pointer (some ⟨g, 0, none⟩)) (cs : Array Value) (hg : Has w g cs 24) (hs : cs.size = 32)
    (h : wpList Tryd.prog ops Q rest (a.put o.dst (.agg cs)) w) : wpList Tryd.prog ops Q (o :: rest) a w :=
  wpList_load_row hgd 24 x ho g hx 24 cs (0, 0) _ hg.out Tryd.underlying24 rfl (infoHash.trans (by rw [hs])) h
theorem h_store {w : World} {ops : Array Oper} {rest : List Oper} {o : Oper} {a : Act} {Q : Exit → Act → World → Prop} (hgd : o.guard = none) (x y : Operand) (ho : o.op = .store 24 x y) (g : Nat) (cz cs' : Array Value) (hx : a.eval x = .pointer (some ⟨g, 0, none⟩)) (hy : a.eval y = .agg cz) (e : cz = cs') (hs' : cs'.size = 32) (h1 : cs'.all (·.oneCell') = true) (cs : Array Value) (hg : Has w g cs 24) (hs : cs.size = 32)
    (h : wpList Tryd.prog ops Q rest (a.put o.dst undef) (w.setRow g cs')) : wpList Tryd.prog ops Q (o :: rest) a w := by
  subst e
  exact wpList_store_row hgd 24 x y ho g cz hx hy 24 cs hg.out (infoHash.trans (by rw [hs'])) (by rw [hs, hs']) h1 h
theorem hz32_lit : (#[.int .u8 0, .int .u8 0, .int .u8 0, .int .u8 0, .int .u8 0, .int .u8 0, .int .u8 0, .int .u8 0, .int .u8 0, .int .u8 0, .int .u8 0, .int .u8 0, .int .u8 0, .int .u8 0, .int .u8 0, .int .u8 0, .int .u8 0, .int .u8 0, .int .u8 0, .int .u8 0, .int .u8 0, .int .u8 0, .int .u8 0, .int .u8 0, .int .u8 0, .int .u8 0, .int .u8 0, .int .u8 0, .int .u8 0, .int .u8 0, .int .u8 0, .int .u8 0] : Array Value) = hz32 := rfl
theorem h_results2 {w : World} {fn : Func} {p u : Tmp} (h : fn.results = #[.cell p 24, .tmp u]) (tmps : Array Value) (g : Nat) (cs : Array Value) (v : Value) (hp : tmps.getD p undef = .pointer (some ⟨g, 0, none⟩)) (hv : tmps.getD u undef = v) (hg : Has w g cs 24) (hs : cs.size = 32) :
    (results fn tmps).run Tryd.prog w = .ok (.tuple #[.agg cs, v]) w := by
  rw [results_cell_tmp h, hp, hv]
  have hl : (loadVar 24 ⟨g, 0, none⟩).run Tryd.prog w = .ok (.agg cs) w := run_loadVar_row w g 24 24 cs (0, 0) _ hg.out Tryd.underlying24 rfl (infoHash.trans (by rw [hs]))
  simp [asAddr, hl, Result.andThen]
theorem hz32_new (w : World) (t : TypeId) : Has (w.alloc (.cells #[.int .u8 0, .int .u8 0, .int .u8 0, .int .u8 0, .int .u8 0, .int .u8 0, .int .u8 0, .int .u8 0, .int .u8 0, .int .u8 0, .int .u8 0, .int .u8 0, .int .u8 0, .int .u8 0, .int .u8 0, .int .u8 0, .int .u8 0, .int .u8 0, .int .u8 0, .int .u8 0, .int .u8 0, .int .u8 0, .int .u8 0, .int .u8 0, .int .u8 0, .int .u8 0, .int .u8 0, .int .u8 0, .int .u8 0, .int .u8 0, .int .u8 0, .int .u8 0] t)) w.heap.size hz32 t := Has.new hz32 t
theorem digs_64 (l : List UInt8) : (digs l 32).length = 64 := digs_length l 32
set_option maxRecDepth 100000 in
set_option maxHeartbeats 1000000 in
theorem parse_len (s : ByteArray) (hs : s.size ≠ 64) (w : World) :
    Calls Tryd.prog 17 #[.string s] w fun e w' => (∃ l c, e = .returned (.tuple #[.agg (bytesV l), .int .i64 c]) ∧ l.length = 32 ∧ Parsed s.data.toList l c) ∧ Below w.heap.size w w' := by
  have hP : Parsed s.data.toList (List.replicate 32 0) 4 := .inr ⟨rfl, rfl, fun l' e => hs (by rw [Lib.size_eq, ← e, digs_64])⟩
  have HP := Lib.hid hP
  have ht : ((s.size : Int) != 64) = true := by rw [bne_iff_ne]; omega
  clear hs hP
  go_enter Tryd.func17, Tryd.ntmps17
  go_upto_region 1 with fail
  generalize hw1 : World.alloc _ _ = w1
  have hR : Has w1 w.heap.size hz32 24 := by rw [← hw1]; exact Has.new _ _
  have hB : Below w.heap.size w w1 := by rw [← hw1]; exact (Below.refl _ _).alloc (Nat.le_refl _) _
  have h32 := hz32_size
  have H1 := Lib.hid hz32_one
  clear hw1
  go_wp2_with (with_reducible refine h_store rfl _ _ rfl _ _ hz32 rfl rfl hz32_lit h32 H1.out hz32 hR h32 ?_)
  exact bodyPost_ret (v := .tuple #[.agg hz32, .int .i64 4]) (h_results2 Tryd.results17 _ _ _ _ rfl rfl (hR.row _) rfl) rfl ⟨⟨List.replicate 32 0, 4, by rw [hz32_list], by simp, HP.out⟩, below_setRow hB (Nat.le_refl _) _⟩
theorem or8 (a b : Nat) (ha : a < 256) (hb : b < 256) : bits .or .u8 (a : Int) (b : Int) = ((a ||| b : Nat) : Int) := by
  have h : a ||| b < 2 ^ 8 := Nat.or_lt_two_pow ha hb
  show IntKind.u8.wrap ((BitVec.ofInt 8 (a : Int) ||| BitVec.ofInt 8 (b : Int)).toNat : Int) = _
  rw [BitVec.ofInt_natCast, BitVec.ofInt_natCast, BitVec.toNat_or, BitVec.toNat_ofNat, BitVec.toNat_ofNat, Nat.mod_eq_of_lt (by omega), Nat.mod_eq_of_lt (by omega), IntKind.wrap_u8]
  omega
set_option maxRecDepth 100000 in
set_option maxHeartbeats 1000000 in
theorem parse_64 (s : ByteArray) (hs : s.size = 64) (w : World) :
    Calls Tryd.prog 17 #[.string s] w fun e w' => (∃ l c, e = .returned (.tuple #[.agg (bytesV l), .int .i64 c]) ∧ l.length = 32 ∧ Parsed s.data.toList l c) ∧ Below w.heap.size w w' := by
  have ht : ((s.size : Int) != 64) = false := by rw [bne_eq_false_iff_eq]; omega
  have HS := Lib.hid hs
  have hsle : s.size ≤ 64 := by omega
  clear hs
  go_enter Tryd.func17, Tryd.ntmps17
  go_upto_region 4 with fail
  generalize hw1 : World.alloc (World.alloc _ _) _ = w1
  have hw2 : w1.heap.size = w.heap.size + 1 + 1 := by rw [← hw1]; simp
  have hB : Below w.heap.size w w1 := by rw [← hw1]; exact ((Below.refl _ _).alloc (Nat.le_refl _) _).alloc (by simp) _
  have hR : Has w1 w.heap.size hz32 24 := by rw [← hw1]; exact (Has.new _ _).alloc _
  have hH : Has w1 (w.heap.size + 1) (bytesV (parsed s.data.toList 0)) 24 := by
    rw [← hw1, parsed_start, hz32_list]
    have := Has.new (w := w.alloc (.cells hz32 24)) hz32 24
    rwa [World.size_alloc] at this
  clear hw1
  go_wp2_with fail
  generalize hw3 : World.iter _ _ _ = w3
  have h0 : Ps w w3 w.heap.size (w.heap.size + 1) (w.heap.size + 1 + 1) s 0 := by
    rw [← hw3]
    refine ⟨hB.alloc hB.size _, hR.alloc _, hH.alloc _, ?_⟩
    have := World.iter_heap w1 s 0
    rwa [hw2] at this
  clear hw3 hB hR hH hw2
  have K1 : w.heap.size ≠ w.heap.size + 1 + 1 := by omega
  have K2 : w.heap.size + 1 ≠ w.heap.size + 1 + 1 := by omega
  have K3 : w.heap.size ≠ w.heap.size + 1 := by omega
  have K4 : w.heap.size ≤ w.heap.size + 1 := by omega
  have K5 : w.heap.size ≤ w.heap.size + 1 + 1 := by omega
  have L1 := Lib.hid K1
  have L2 := Lib.hid K2
  have L3 := Lib.hid K3
  have L4 := Lib.hid K4
  have L5 := Lib.hid K5
  clear K1 K2 K3 K4 K5
  generalize hI : w.heap.size + 1 + 1 = I at *
  generalize hH : w.heap.size + 1 = H at *
  generalize hR : w.heap.size = R at *
  have M1 := Lib.hid hR
  clear hI hH hR
  go_loopw [] (fun wr => ∃ k : Nat, k ≤ 64 ∧ Ps w wr R H I s k ∧ Hid (∀ j, j < k → digOk ((s.data.toList.getD j 0).toNat : Int) = true)) (fun wr => 64 - wr.iterPos I)
  case atStart => exact ⟨0, by omega, h0, Lib.hid fun j hj => absurd hj (by omega)⟩
  case round =>
    clear h0
    obtain ⟨k, hk, hp, HOK⟩ := hrel
    by_cases hlt : k < 64
    · have hks : k < s.size := by rw [HS.out]; exact hlt
      obtain ⟨b, hb⟩ : ∃ b, b = s.data.toList.getD k 0 := ⟨_, rfl⟩
      obtain ⟨r1, r2⟩ := rune_ok s k hks b hb
      have hd1 := decode_le s k
      have hnx : ∀ ty, (Instr.next (.pointer (some ⟨I, 0, none⟩)) true ty).run Tryd.prog wr = _ := fun ty => Lib.run_next_any_at wr I s k ty hp.it hks
      by_cases hok : digOk (b.toNat : Int) = true
      · rw [r2 hok] at hnx
        have hv := dv_int s.data.toList k
        rw [← hb] at hv
        have hvl := dv_lt s.data.toList k
        have hbl := b.toNat_lt
        have cd := fun w => digit (b.toNat : Int) (by omega) (by omega) w
        rw [hv, hok] at cd
        have CD := Lib.hid cd
        have hpn := pval_next s.data.toList k
        have hpl := pval_lt s.data.toList k (k / 2)
        have hz : bits .or .u8 (((pval s.data.toList k (k / 2) <<< 4) % 256 : Nat) : Int) ((dv s.data.toList k : Nat) : Int) = ((pval s.data.toList (k + 1) (k / 2) : Nat) : Int) := by
          rw [or8 _ _ (Nat.mod_lt _ (by decide)) (by omega), hpn]
        have hnxt := hp.next hlt (by rw [M1.out]; exact L5.out) (by rw [M1.out]; exact L4.out) L1.out L2.out L3.out ((pval s.data.toList (k + 1) (k / 2) : Nat) : Int) rfl
        have hat : (31 : Int) - (k : Int) / 2 = ((31 - k / 2 : Nat) : Int) := by omega
        have hat2 : 31 - k / 2 < 32 := by omega
        have c1 : (wr.iterAt I s (k + 1)).cell? ⟨H, 31 - k / 2, none⟩ = some (.int .u8 ((pval s.data.toList k (k / 2) : Nat) : Int)) := by
          have e : Has (wr.iterAt I s (k + 1)) H (bytesV (parsed s.data.toList k)) 24 := (Lib.iterAt_other _ _ _ _ _ L2.out).trans hp.h
          have := e.byte (31 - k / 2) (by rw [parsed_length]; omega)
          rw [parsed_get, UInt8.toNat_ofNat', show 31 - (31 - k / 2) = k / 2 by omega, Nat.mod_eq_of_lt (pval_lt _ _ _)] at this
          exact this
        have c2 : (wr.iterAt I s (k + 1)).frozen? ⟨H, 31 - k / 2, none⟩ = false := by
          have e : Has (wr.iterAt I s (k + 1)) H (bytesV (parsed s.data.toList k)) 24 := (Lib.iterAt_other _ _ _ _ _ L2.out).trans hp.h
          exact e.free _
        have hok2 : ∀ j, j < k + 1 → digOk ((s.data.toList.getD j 0).toNat : Int) = true := fun j hj => by
          by_cases e : j = k
          · rw [e, ← hb]; exact hok
          · exact HOK.out j (by omega)
        have HOK2 := Lib.hid hok2
        have HNX := Lib.hid hnxt
        obtain ⟨o, ho⟩ : ∃ o, o = pval s.data.toList k (k / 2) := ⟨_, rfl⟩
        rw [← ho] at c1 hz hpl
        have ho4 : (o : Int) * (16 : Int) % (256 : Int) = (((o <<< 4) % 256 : Nat) : Int) := by rw [Nat.shiftLeft_eq]; omega
        generalize (o <<< 4) % 256 = o4 at *
        generalize dv s.data.toList k = d at *
        generalize pval s.data.toList (k + 1) (k / 2) = nw at *
        generalize hW : wr.iterAt I s (k + 1) = W at *
        have hits := Lib.hid hp.it
        clear hb r1 r2 hd1 hok hv cd hpn hnxt hok2 HOK ho hp
        generalize 31 - k / 2 = at_ at *
        go_wp2_with fail
        refine (CD.out _).mono ?_
        rintro e w5 ⟨rfl, rfl⟩
        clear hnx
        go_wp2_with fail
        go_roundw
        case rel => exact ⟨k + 1, by omega, HNX.out, HOK2⟩
        case measure =>
          have e1 := HNX.out.it
          have e2 := hits.out
          simp only [World.iterPos, e1, e2]
          omega
      · have hokf : digOk (b.toNat : Int) = false := by simpa using hok
        rw [hokf] at r1
        have cd := fun w => digit ((Utf8.decode s k).1 : Int) (by omega) (by omega) w
        rw [r1] at cd
        have CD := Lib.hid cd
        have hP : Parsed s.data.toList (List.replicate 32 0) 4 := .inr ⟨rfl, rfl, fun l' e => by
          have := digs_ok l' k hlt
          rw [e, ← hb, hokf] at this
          cases this⟩
        have HP := Lib.hid hP
        have hW2 : Below w.heap.size w (wr.iterAt I s (k + (Utf8.decode s k).2)) := Lib.below_iterAt hp.below (by rw [M1.out]; exact L5.out) s _
        have hR : Has (wr.iterAt I s (k + (Utf8.decode s k).2)) R hz32 24 := (Lib.iterAt_other _ _ _ _ _ L1.out).trans hp.res
        generalize wr.iterAt I s (k + (Utf8.decode s k).2) = W at *
        generalize digV ((Utf8.decode s k).1 : Int) = d at *
        generalize (Utf8.decode s k).1 = r at *
        have h32 := hz32_size
        have H1 := Lib.hid hz32_one
        clear hb r1 r2 hok hokf cd hP hp HOK hd1
        go_wp2_with fail
        refine (CD.out _).mono ?_
        rintro e w5 ⟨rfl, rfl⟩
        clear hnx
        go_wp2_with (with_reducible refine h_store rfl _ _ rfl _ _ hz32 rfl rfl hz32_lit h32 H1.out hz32 hR h32 ?_)
        exact bodyPost_ret (v := .tuple #[.agg hz32, .int .i64 4]) (h_results2 Tryd.results17 _ _ _ _ rfl rfl (hR.row _) rfl) rfl ⟨⟨List.replicate 32 0, 4, by rw [hz32_list], by simp, HP.out⟩, below_setRow hW2 (by rw [M1.out]; exact Nat.le_refl _) _⟩
    · obtain rfl : k = 64 := by omega
      have hks : ¬ 64 < s.size := by rw [HS.out]; omega
      have hnx : ∀ ty, (Instr.next (.pointer (some ⟨I, 0, none⟩)) true ty).run Tryd.prog wr = _ := fun ty => Lib.run_next_end_at wr I s 64 ty hp.it hks
      have hl := parsed_length s.data.toList 64
      have hP : Parsed s.data.toList (parsed s.data.toList 64) 0 := .inl ⟨rfl, hl, digs_parsed _ (by rw [← Lib.size_eq, HS.out]) HOK.out⟩
      have HP := Lib.hid hP
      have HL := Lib.hid hl
      have hH := hp.h
      have hR := hp.res
      have hB := hp.below
      have hs32 : (bytesV (parsed s.data.toList 64)).size = 32 := by rw [bytesV_size, hl]
      have H1 := Lib.hid (bytesV_one (parsed s.data.toList 64))
      have h32 := hz32_size
      have HS32 := Lib.hid hs32
      clear hp HOK hP hl hks
      generalize parsed s.data.toList 64 = l at *
      generalize hcs : bytesV l = cs at *
      have HCS := Lib.hid hcs
      clear hcs
      go_wp2_with (first
        | (with_reducible refine h_load rfl _ rfl _ rfl cs hH hs32 ?_)
        | (with_reducible refine h_store rfl _ _ rfl _ _ cs rfl rfl rfl hs32 H1.out hz32 hR h32 ?_))
      exact bodyPost_ret (v := .tuple #[.agg cs, .int .i64 0]) (h_results2 Tryd.results17 _ _ _ _ rfl rfl (hR.row _) HS32.out) rfl ⟨⟨l, 0, by rw [HCS.out], HL.out, HP.out⟩, below_setRow hB (by rw [M1.out]; exact Nat.le_refl _) _⟩
theorem parse (s : ByteArray) (w : World) :
    Calls Tryd.prog 17 #[.string s] w fun e w' => (∃ l c, e = .returned (.tuple #[.agg (bytesV l), .int .i64 c]) ∧ l.length = 32 ∧ Parsed s.data.toList l c) ∧ Below w.heap.size w w' := by
  by_cases h : s.size = 64
  · exact parse_64 s h w
  · exact parse_len s h w
end Go.Proofs.YteachheacllblaaDoor
