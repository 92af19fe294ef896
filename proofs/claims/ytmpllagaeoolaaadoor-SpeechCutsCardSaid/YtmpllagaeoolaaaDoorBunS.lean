/-
  Texts of this seat, one behind the other.
-/
import Derived.Test.YtmpllagaeoolaaaDoorZSpRoom
import Derived.Test.YtmpllagaeoolaaaDoorZSpWord
import Derived.Test.YtmpllagaeoolaaaDoorZHdRead
import Derived.Test.YtmpllagaeoolaaaDoorZHdOf
import Derived.Test.YtmpllagaeoolaaaDoorBunC
import Derived.Test.YtmpllagaeoolaaaDoorZSpRegion
import Derived.Test.YtmpllagaeoolaaaDoorZScPutL
import Derived.Test.YtmpllagaeoolaaaDoorZHdWrite
import Derived.Test.YtmpllagaeoolaaaDoorZEvBytes
import Derived.Test.YtmpllagaeoolaaaDoorZHdRef
import Derived.Test.YtmpllagaeoolaaaDoorZHdEq
import Derived.Test.YtmpllagaeoolaaaDoorZHdAlive
import Derived.Test.YtmpllagaeoolaaaDoorZEvRef8
/-
  What a message in memory says; when it can be, part by part.
-/
namespace Go.Proofs.YtmpllagaeoolaaaDoor
open Go.RowKit Mem Sc
/-- the cells m, with what their slices lead to, are the message M -/
structure Lies (w : World) (m : Mm) (M : Ms) : Prop where
  kind : m.kind = M.kind
  ver : m.ver = M.ver
  serv : m.serv = M.serv
  height : m.height = M.height
  nb : m.nb = M.nb
  stop : m.stop = M.stop
  n1 : m.ns.n = M.names.length
  l1 : m.ns.n ≤ 4611686018427387904
  names : NamesAt w m.ns.a M.names
  n2 : m.hs.n = M.heads.length
  l2 : m.hs.n ≤ 4611686018427387904
  heads : HeadersAt w m.hs.a M.heads
  ok : M.ok
theorem Lies.mok {w : World} {m : Mm} {M : Ms} (h : Lies w m M) : m.ok := by
  unfold Mm.ok; rw [h.stop]; exact h.ok.2.1
theorem Lies.below {w w' : World} {m : Mm} {M : Ms} (h : Lies w m M) (hb : Below w.heap.size w w') : Lies w' m M :=
  ⟨h.kind, h.ver, h.serv, h.height, h.nb, h.stop, h.n1, h.l1, h.names.below hb, h.n2, h.l2, h.heads.below hb, h.ok⟩
theorem names_nil (w : World) (a : Option Addr) : NamesAt w a [] := fun h => absurd h (by simp)
theorem heads_nil (w : World) (a : Option Addr) : HeadersAt w a [] := fun h => absurd h (by simp)
theorem Lies.bare {w : World} {m : Mm} {M : Ms} (h : Lies w m M) : Lies w m.bare M.bare := by
  obtain ⟨k, ve, se, he, nb, ns, st, hs⟩ := m
  obtain ⟨K, VE, SE, HE, NB, NS, ST, HS⟩ := M
  obtain ⟨h0, h1, h2, h3, h4, h5, h6, h7, h8, h9, h10, h11, h12⟩ := h
  simp only at h0 h1 h2 h3 h4 h5
  subst h0 h1 h2 h3 h4 h5
  have hok := bare_ok h12
  unfold Mm.bare Ms.bare at *
  simp only at *
  by_cases k1 : k = 1
  · simp only [if_pos k1] at *
    exact ⟨rfl, rfl, rfl, rfl, rfl, rfl, rfl, Nat.zero_le _, names_nil _ _, rfl, Nat.zero_le _, heads_nil _ _, hok⟩
  by_cases k3 : k = 3
  · simp only [if_neg k1, if_pos k3] at *
    exact ⟨rfl, rfl, rfl, rfl, rfl, rfl, h6, h7, h8, rfl, Nat.zero_le _, heads_nil _ _, hok⟩
  by_cases k4 : k = 4
  · simp only [if_neg k1, if_neg k3, if_pos k4] at *
    exact ⟨rfl, rfl, rfl, rfl, rfl, rfl, rfl, Nat.zero_le _, names_nil _ _, h9, h10, h11, hok⟩
  by_cases k5 : k = 5
  · simp only [if_neg k1, if_neg k3, if_neg k4, if_pos k5] at *
    exact ⟨rfl, rfl, rfl, rfl, rfl, rfl, h6, h7, h8, rfl, Nat.zero_le _, heads_nil _ _, hok⟩
  by_cases k6 : k = 6 ∨ k = 7
  · simp only [if_neg k1, if_neg k3, if_neg k4, if_neg k5, if_pos k6] at *
    exact ⟨rfl, rfl, rfl, rfl, rfl, rfl, rfl, Nat.zero_le _, names_nil _ _, rfl, Nat.zero_le _, heads_nil _ _, hok⟩
  simp only [if_neg k1, if_neg k3, if_neg k4, if_neg k5, if_neg k6] at *
  exact ⟨rfl, rfl, rfl, rfl, rfl, rfl, rfl, Nat.zero_le _, names_nil _ _, rfl, Nat.zero_le _, heads_nil _ _, hok⟩
theorem wordK_none (k : Int) (h : ¬ (1 ≤ k ∧ k ≤ 8)) : wordK k = E0 := by
  by_cases h0 : k = 0
  · subst h0; rfl
  · exact wordK_no k (by omega)
theorem wordK_some (k : Int) (h : 1 ≤ k ∧ k ≤ 8) : wordK k ≠ E0 := by
  obtain ⟨h1, h2⟩ := h
  obtain rfl | rfl | rfl | rfl | rfl | rfl | rfl | rfl : k = 1 ∨ k = 2 ∨ k = 3 ∨ k = 4 ∨ k = 5 ∨ k = 6 ∨ k = 7 ∨ k = 8 := by omega
  all_goals decide +kernel
theorem isEmpty_no {s : ByteArray} (h : s ≠ E0) : s.toList.isEmpty = false := by
  cases he : s.toList.isEmpty
  · rfl
  · refine absurd (ba_ext ?_) h
    rw [← ByteArray.toList_eq]
    exact List.isEmpty_iff.1 he
theorem heads0 : headsG [] := ⟨by simp, by simp⟩
theorem in40 : in4 0 := by decide
theorem in70 : in7 0 := by decide
instance msPDec (m : Ms) : Decidable m.P := by
  unfold Ms.P
  exact inferInstance
/-- a message can be: its parts, as Good tests them -/
theorem P_parts (M : Ms) : M.P ↔ (1 ≤ M.kind ∧ M.kind ≤ 8) ∧ (in4 M.bare.ver ∧ in4 M.bare.height) ∧ (in7 M.bare.serv ∧ in7 M.bare.nb) ∧ M.bare.names.length ≤ mostOf M.kind ∧ headsG M.bare.heads := by
  obtain ⟨k, ve, se, he, nb, ns, st, hs⟩ := M
  unfold Ms.P Ms.bare mostOf headsG
  simp only
  by_cases h1 : k = 1
  · subst h1
    simp [and_assoc]
  by_cases h3 : k = 3
  · subst h3
    simp [in40, in70]
  by_cases h4 : k = 4
  · subst h4
    simp [in40, in70, and_comm]
  by_cases h5 : k = 5
  · subst h5
    simp [in40, in70]
  by_cases h6 : k = 6 ∨ k = 7
  · simp only [if_neg h1, if_neg h3, if_neg h4, if_neg h5, if_pos h6]
    simp [in40, in70]
    omega
  simp only [if_neg h1, if_neg h3, if_neg h4, if_neg h5, if_neg h6]
  simp [in40, in70]
  omega
end Go.Proofs.YtmpllagaeoolaaaDoor
/-
  speech: readBlock, readHeader, readList.
-/
namespace Go.Proofs.YtmpllagaeoolaaaDoor
open Go.RowKit Mem Sc
theorem name_len (e : Ey) : e.name.1.length = 32 := name32_length _
theorem blk_len (e : Ey) : e.blk.1.length = 32 := name32_length _
theorem blk_ok {e : Ey} (h : e.ok) : e.blk.2.ok := by
  unfold Ey.blk
  split
  · exact ok_name (ok_get h 4)
  · exact ok_name ok_dark
theorem hd0_ok {e : Ey} (_h : e.ok) : e.hd0.2.ok := ok_count _ _
theorem header_ok1 (e : Ey) : e.header.1.ok := by
  unfold Ey.header
  simp only
  split
  · exact hdZ_ok
  · exact ⟨name32_length _, name32_length _⟩
set_option maxRecDepth 100000 in
set_option maxHeartbeats 1000000 in
theorem rblk_eq (E : Nat) (e : Ey) (w : World) (hE : EyeAt w E e) (h2 : (e.get 4).1 = 2) : Calls Tryd.prog 57 #[.pointer (some ⟨E, 0, none⟩)] w fun r w' => ReadPost E w (.agg (bytesV e.blk.1)) e.blk.2 r w' := by
  have hlt := hE.lt
  have t1 : (((e.get 4).1 : Int) == 2) = true := by rw [beq_iff_eq]; omega
  have t2 : (!(((e.get 4).1 : Int) == 2)) = false := by rw [t1]; rfl
  have he : e.blk = ((e.get 4).2).name := by unfold Ey.blk; rw [if_pos h2]
  rw [he]
  have KG := Lib.hid (fun w h => get_at E e 4 w h)
  have KN := Lib.hid (fun w h => name_at E ((e.get 4).2) w h)
  have hn32 : ((e.get 4).2).name.1.length = 32 := name_len _
  have HS := Lib.hid (hv_size hn32)
  have hone := bytesV_one ((e.get 4).2).name.1
  clear he h2 hn32
  generalize bytesV ((e.get 4).2).name.1 = cs at *
  generalize ((e.get 4).2).name.2 = e' at *
  generalize (e.get 4).1 = n at *
  generalize (e.get 4).2 = e1 at *
  go_enter Tryd.func57, Tryd.ntmps57
  go_upto_region 1 with fail
  have hR := h0_new w 24
  have hE1 : EyeAt (w.alloc (.cells h0 24)) E e := Has.alloc hE _
  have hb1 : Below w.heap.size w (w.alloc (.cells h0 24)) := (Below.refl _ _).alloc (Nat.le_refl _) _
  have hg1 : w.grownBy (w.alloc (.cells h0 24)) (some E) := gb_below hb1 _
  rw [← h0_lit] at hE1 hg1
  obtain ⟨R, hRe⟩ : ∃ R, R = w.heap.size := ⟨_, rfl⟩
  rw [← hRe] at hR hlt ⊢
  have hRl : w.heap.size ≤ R := by omega
  have hne : R ≠ E := by omega
  clear hRe hE hb1 hlt
  generalize World.alloc _ _ = w1 at *
  go_wp2_with fail
  refine (KG.out _ hE1).mono ?_
  rintro r w2 ⟨rfl, hE2, hg2⟩
  have hR2 : Has w2 R h0 24 := gb_has hg2 hR (fun h => hne (Option.some.inj h))
  replace hg2 := gb_trans hg1 hg2
  clear hR hE1 hg1 KG
  have hR3 := hR2
  have hE3 := hE2
  have hg3 := hg2
  clear hR2 hE2 hg2
  have C3 := Lib.hid (KN.out _ hE3)
  have hz0 : h0.size = 32 := rfl
  have HZ := Lib.hid hz0
  clear hz0
  go_wp2_with fail
  refine C3.out.mono ?_
  rintro r w4 ⟨rfl, hE4, hg4⟩
  have hR4 : Has w4 R h0 24 := gb_has hg4 hR3 (fun h => hne (Option.some.inj h))
  replace hg4 := gb_trans hg3 hg4
  clear hR3 hE3 hg3 C3 KN
  go_wp2_with (with_reducible refine hl_store rfl _ _ rfl R _ cs rfl rfl rfl HS.out hone h0 hR4 HZ.out ?_)
  exact bodyPost_ret (v := .agg cs) (hl_results Tryd.results57 _ R _ rfl (hR4.row _) HS.out) rfl ⟨rfl, Has.otherRow hE4 _ _ (Ne.symm hne), gb_setRowNew hg4 _ hRl _⟩
set_option maxRecDepth 100000 in
set_option maxHeartbeats 1000000 in
theorem rblk_ne (E : Nat) (e : Ey) (w : World) (hE : EyeAt w E e) (h2 : (e.get 4).1 ≠ 2) : Calls Tryd.prog 57 #[.pointer (some ⟨E, 0, none⟩)] w fun r w' => ReadPost E w (.agg (bytesV e.blk.1)) e.blk.2 r w' := by
  have hlt := hE.lt
  have t1 : (((e.get 4).1 : Int) == 2) = false := by exact beq_eq_false_iff_ne.2 (fun h => h2 (by omega))
  have t2 : (!(((e.get 4).1 : Int) == 2)) = true := by rw [t1]; rfl
  have he : e.blk = (dark).name := by unfold Ey.blk; rw [if_neg h2]
  rw [he]
  have KG := Lib.hid (fun w h => get_at E e 4 w h)
  have KN := Lib.hid (fun w h => name_at E (dark) w h)
  have hn32 : (dark).name.1.length = 32 := name_len _
  have HS := Lib.hid (hv_size hn32)
  have hone := bytesV_one (dark).name.1
  clear he h2 hn32
  generalize bytesV (dark).name.1 = cs at *
  generalize (dark).name.2 = e' at *
  generalize (e.get 4).1 = n at *
  go_enter Tryd.func57, Tryd.ntmps57
  go_upto_region 1 with fail
  have hR := h0_new w 24
  have hE1 : EyeAt (w.alloc (.cells h0 24)) E e := Has.alloc hE _
  have hb1 : Below w.heap.size w (w.alloc (.cells h0 24)) := (Below.refl _ _).alloc (Nat.le_refl _) _
  have hg1 : w.grownBy (w.alloc (.cells h0 24)) (some E) := gb_below hb1 _
  rw [← h0_lit] at hE1 hg1
  obtain ⟨R, hRe⟩ : ∃ R, R = w.heap.size := ⟨_, rfl⟩
  rw [← hRe] at hR hlt ⊢
  have hRl : w.heap.size ≤ R := by omega
  have hne : R ≠ E := by omega
  clear hRe hE hb1 hlt
  generalize World.alloc _ _ = w1 at *
  go_wp2_with fail
  refine (KG.out _ hE1).mono ?_
  rintro r w2 ⟨rfl, hE2, hg2⟩
  have hR2 : Has w2 R h0 24 := gb_has hg2 hR (fun h => hne (Option.some.inj h))
  replace hg2 := gb_trans hg1 hg2
  clear hR hE1 hg1 KG
  have CB := Lib.hid (blind_at E _ _ hE2)
  go_wp2_with fail
  refine CB.out.mono ?_
  rintro r w3 ⟨rfl, hE3, hg3⟩
  have hR3 : Has w3 R h0 24 := gb_has hg3 hR2 (fun h => hne (Option.some.inj h))
  replace hg3 := gb_trans hg2 hg3
  clear hR2 hE2 hg2 CB
  have C3 := Lib.hid (KN.out _ hE3)
  have hz0 : h0.size = 32 := rfl
  have HZ := Lib.hid hz0
  clear hz0
  go_wp2_with fail
  refine C3.out.mono ?_
  rintro r w4 ⟨rfl, hE4, hg4⟩
  have hR4 : Has w4 R h0 24 := gb_has hg4 hR3 (fun h => hne (Option.some.inj h))
  replace hg4 := gb_trans hg3 hg4
  clear hR3 hE3 hg3 C3 KN
  go_wp2_with (with_reducible refine hl_store rfl _ _ rfl R _ cs rfl rfl rfl HS.out hone h0 hR4 HZ.out ?_)
  exact bodyPost_ret (v := .agg cs) (hl_results Tryd.results57 _ R _ rfl (hR4.row _) HS.out) rfl ⟨rfl, Has.otherRow hE4 _ _ (Ne.symm hne), gb_setRowNew hg4 _ hRl _⟩
theorem rblk_at (E : Nat) (e : Ey) (w : World) (hE : EyeAt w E e) : Calls Tryd.prog 57 #[.pointer (some ⟨E, 0, none⟩)] w fun r w' => ReadPost E w (.agg (bytesV e.blk.1)) e.blk.2 r w' := by
  by_cases h : (e.get 4).1 = 2
  · exact rblk_eq E e w hE h
  · exact rblk_ne E e w hE h
set_option maxRecDepth 100000 in
set_option maxHeartbeats 1000000 in
theorem rhd0_at (E : Nat) (e : Ey) (hok : e.ok) (w : World) (hE : EyeAt w E e) : Calls Tryd.prog 56 #[.pointer (some ⟨E, 0, none⟩)] w fun r w' => ReadPost E w (.agg (hdA e.hd0.1)) e.hd0.2 r w' := by
  have hlt := hE.lt
  have K1 := Lib.hid (fun w h => read_at E e w h)
  have K2 := Lib.hid (fun w h => count_at E e.header.2 (ok_e6 hok) 0 w h)
  have hx := header_ok1 e
  have he : e.hd0 = (e.header.1, (e.header.2.count 0).2) := rfl
  have hs := hdA_size hx
  rw [he]
  simp only
  clear he hok hx
  generalize e.header.1 = x at *
  generalize (e.header.2.count 0).2 = e' at *
  generalize (e.header.2.count 0).1 = n at *
  generalize e.header.2 = e1 at *
  go_enter Tryd.func56, Tryd.ntmps56
  go_upto_region 1 with fail
  have hR := hd_newz w
  have hE1 : EyeAt (w.alloc (.cells Tryd.zeroCells48 48)) E e := Has.alloc hE _
  have hb1 : Below w.heap.size w (w.alloc (.cells Tryd.zeroCells48 48)) := (Below.refl _ _).alloc (Nat.le_refl _) _
  have hg1 : w.grownBy (w.alloc (.cells Tryd.zeroCells48 48)) (some E) := gb_below hb1 _
  obtain ⟨R, hRe⟩ : ∃ R, R = w.heap.size := ⟨_, rfl⟩
  rw [← hRe] at hR hlt ⊢
  have hRl : w.heap.size ≤ R := by omega
  have hne : R ≠ E := by omega
  clear hRe hE hb1 hlt
  generalize World.alloc _ _ = w1 at *
  go_wp2_with fail
  refine (K1.out _ hE1).mono ?_
  rintro r w2 ⟨rfl, hE2, hg2⟩
  have hR2 : HdAt w2 R hdZ := hR.grown hg2 (fun h => hne (Option.some.inj h))
  replace hg2 := gb_trans hg1 hg2
  clear hR hE1 hg1 K1
  have hz0 := hdA_size hdZ_ok
  have hN := hd_newz w2
  have hRX := hR2.lt
  have hEX := hE2.lt
  go_upto_region 2 with (with_reducible refine hd_store rfl _ _ rfl w2.heap.size _ x rfl rfl rfl hs hN hz0 ?_)
  obtain ⟨X, hX⟩ : ∃ X, X = w2.heap.size := ⟨_, rfl⟩
  generalize hw3 : World.setRow _ _ _ = w3
  have hX3 : HdAt w3 X x := by rw [← hw3, hX]; exact Has.row hN _
  have hB3 : Below w2.heap.size w2 w3 := by rw [← hw3]; exact below_setRow ((Below.refl _ _).alloc (Nat.le_refl _) _) (Nat.le_refl _) _
  rw [← hX]
  have hXE : X ≠ E := by omega
  have hRX' : R ≠ X := by omega
  clear hw3 hX hN hRX hEX
  have hR3 := hR2.on hB3
  have hE3 := hE2.on hB3
  have hg3 := gb_trans hg2 (gb_below hB3 _)
  clear hR2 hE2 hg2 hB3
  have C2 := Lib.hid (K2.out _ hE3)
  go_wp2_with fail
  refine C2.out.mono ?_
  rintro r w4 ⟨rfl, hE4, hg4⟩
  have hR4 := hR3.grown hg4 (fun h => hne (Option.some.inj h))
  have hX4 := hX3.grown hg4 (fun h => hXE (Option.some.inj h))
  replace hg4 := gb_trans hg3 hg4
  clear hR3 hX3 hE3 hg3 C2 K2
  go_wp2_with (first
    | (with_reducible refine hd_load rfl _ rfl X rfl hX4 hs ?_)
    | (with_reducible refine hd_store rfl _ _ rfl R _ x rfl rfl rfl hs hR4 hz0 ?_))
  exact bodyPost_ret (v := .agg (hdA x)) (hd_results Tryd.results56 _ R rfl (Has.row hR4 _) hs) rfl ⟨rfl, Has.otherRow hE4 _ _ (Ne.symm hne), gb_setRowNew hg4 _ hRl _⟩
theorem namesC_snoc (ls : List (List UInt8)) (x : List UInt8) : namesC (ls ++ [x]) = namesC ls ++ Lib.byteCells x := by simp [namesC]
theorem headersC_snoc (hs : List Hd) (x : Hd) : headersC (hs ++ [x]) = headersC hs ++ hdC x := by simp [headersC]
theorem count_le (e : Ey) (most : Nat) : (e.count (most : Nat)).1 ≤ most := by
  cases hb : (e.count (most : Nat)).2.bad
  · have := (count_reads (most : Nat) e hb).2.1
    simp only at this
    omega
  · unfold Ey.count at *
    split at hb
    · rw [if_pos (by assumption)]; exact Nat.zero_le _
    · rename_i hn
      rw [if_neg hn]
      unfold behind at *
      split at hb
      · rw [if_pos (by assumption)]; exact Nat.zero_le _
      · cases hb
def ListPost (b : Nat) (w : World) (ty : TypeId) (size : Nat) (n : Nat) (cs : List Value) (e' : Ey) (r : Ending) (w' : World) : Prop :=
  ∃ v, r = .returned v ∧ w'.ownsRow w.heap.size ty size v n cs ∧ EyeAt w' b e' ∧ w.grownBy w' (some b)
set_option maxRecDepth 100000 in
set_option maxHeartbeats 2000000 in
theorem list_names (E : Nat) (e : Ey) (hok : e.ok) (most : Nat) (hmost : most ≤ 64) (w : World) (hE : EyeAt w E e) :
    Calls Tryd.prog 53 #[.pointer (some ⟨E, 0, none⟩), .int .i64 (most : Nat), .func (.func 54) #[] #[]] w fun r w' => ListPost E w 24 32 (e.list most Ey.name).1.length (namesC (e.list most Ey.name).1) (e.list most Ey.name).2 r w' := by
  have K1 := Lib.hid (fun w h => count_at E e hok (most : Nat) w h)
  have hle : (e.count (most : Nat)).1 ≤ most := count_le e most
  have hok1 := ok_count e (most : Nat)
  have hl : (e.list most Ey.name).1.length = (e.count (most : Nat)).1 := many_length _ _ _
  have hlist : e.list most Ey.name = many Ey.name (e.count (most : Nat)).1 (e.count (most : Nat)).2 := rfl
  rw [hl, hlist]
  have hn64 : (e.count (most : Nat)).1 ≤ 64 := Nat.le_trans hle hmost
  clear hl hlist hle hmost
  have hlt := hE.lt
  generalize (e.count (most : Nat)).1 = n at *
  generalize (e.count (most : Nat)).2 = e1 at *
  have HOK := Lib.hid hok1
  have HE := Lib.hid hE
  clear hok1 hok hE
  go_enter Tryd.func53, Tryd.ntmps53
  go_wp2_with fail
  refine (K1.out _ HE.out).mono ?_
  rintro r w1 ⟨rfl, hE1, hg1⟩
  clear K1 HE
  go_wp2_with fail
  go_loopw [7, 11] (fun v i wr => ∃ j : Nat, j ≤ n ∧ i = .int .i64 j ∧ wr.ownsRow w.heap.size 24 32 v j (namesC (many Ey.name j e1).1) ∧ EyeAt wr E (many Ey.name j e1).2 ∧ w.grownBy wr (some E) ∧ Hid ((many Ey.name j e1).2.ok)) (fun _ i _ => n - (intOf i).toNat)
  case atStart => exact ⟨0, Nat.zero_le _, rfl, World.ownsRow_nil _ _ _ _, hE1, hg1, HOK⟩
  case round =>
    obtain ⟨j, hj, rfl, hown, hE2, hg, HO⟩ := hrel
    by_cases hlt2 : j < n
    · obtain ⟨i, z, hi, hz, hi1, hi2, hi3⟩ := hash_info
      have hsn := many_snoc Ey.name j e1
      have HNX : Hid (namesC (many Ey.name (j + 1) e1).1 = namesC (many Ey.name j e1).1 ++ Lib.byteCells (Ey.name (many Ey.name j e1).2).1) := Lib.hid (by rw [hsn]; exact namesC_snoc _ _)
      have HNX2 : Hid ((many Ey.name (j + 1) e1).2 = (Ey.name (many Ey.name j e1).2).2) := Lib.hid (by rw [hsn])
      have HO2 : Hid ((many Ey.name (j + 1) e1).2.ok) := Lib.hid (by rw [HNX2.out]; exact (fun h => ok_name h) HO.out)
      have hl32 : (Ey.name (many Ey.name j e1).2).1.length = 32 := (fun e => name32_length _) _
      have HS := Lib.hid (hv_size hl32)
      have HNL : Hid ((Lib.byteCells (Ey.name (many Ey.name j e1).2).1).length = 1 * 32) := Lib.hid (by rw [Lib.byteCells_length, hl32])
      clear hsn hl32
      have CF := Lib.hid ((fun E e _ w h => name_at E e w h) E _ HO.out wr hE2)
      generalize (Ey.name (many Ey.name j e1).2).1 = x at *
      go_wp2_with fail
      refine CF.out.mono ?_
      rintro r w3 ⟨rfl, hE3, hg3⟩
      have hown3 := hown.kept hg3 (.inr (fun e => by have := (hown.lt E e).1; omega))
      have hbase : w.heap.size ≤ (w3.alloc (.cells (bytesV x) 24)).heap.size := by simp only [World.size_alloc]; have := hg.size; have := hg3.size; omega
      have hm : j + 1 ≤ maxLen := by unfold maxLen; omega
      go_wp2_with (first
        | (with_reducible refine build_hl rfl _ rfl _ rfl HS.out ?_)
        | ((with_reducible refine wpList_append_own _ rfl _ _ 22 rfl w.heap.size 24 i z 32 32 Tryd.underlying22 hi hz hi1 hi2 hi3 (by omega) u7 j _ rfl (hown3.alloc _) ⟨w3.heap.size, 0, none⟩ 1 1 (Lib.byteCells x) rfl HNL.out (news_bytes _ _ _) (Lib.byteCells_one _) hm (by omega) hbase ?_); intro v' w4 hown4 hgr4 _))
      go_roundw
      case rel => exact ⟨j + 1, by omega, by go_num, by rw [HNX.out]; exact hown4, by rw [HNX2.out]; exact EyeAt.grown (Has.alloc hE3 _) hgr4 (fun e => by have := (hown.lt E e.symm).1; omega), gb_own (gb_trans hg hg3) _ hgr4 (fun k hk => (hown.lt k hk).1), HO2⟩
      case measure => simp [intOf]; omega
    · obtain rfl : j = n := by omega
      go_wp2_with fail
      go_ret
      exact ⟨_, rfl, hown, hE2, hg⟩
set_option maxRecDepth 100000 in
set_option maxHeartbeats 2000000 in
theorem list_blks (E : Nat) (e : Ey) (hok : e.ok) (most : Nat) (hmost : most ≤ 64) (w : World) (hE : EyeAt w E e) :
    Calls Tryd.prog 53 #[.pointer (some ⟨E, 0, none⟩), .int .i64 (most : Nat), .func (.func 57) #[] #[]] w fun r w' => ListPost E w 24 32 (e.list most Ey.blk).1.length (namesC (e.list most Ey.blk).1) (e.list most Ey.blk).2 r w' := by
  have K1 := Lib.hid (fun w h => count_at E e hok (most : Nat) w h)
  have hle : (e.count (most : Nat)).1 ≤ most := count_le e most
  have hok1 := ok_count e (most : Nat)
  have hl : (e.list most Ey.blk).1.length = (e.count (most : Nat)).1 := many_length _ _ _
  have hlist : e.list most Ey.blk = many Ey.blk (e.count (most : Nat)).1 (e.count (most : Nat)).2 := rfl
  rw [hl, hlist]
  have hn64 : (e.count (most : Nat)).1 ≤ 64 := Nat.le_trans hle hmost
  clear hl hlist hle hmost
  have hlt := hE.lt
  generalize (e.count (most : Nat)).1 = n at *
  generalize (e.count (most : Nat)).2 = e1 at *
  have HOK := Lib.hid hok1
  have HE := Lib.hid hE
  clear hok1 hok hE
  go_enter Tryd.func53, Tryd.ntmps53
  go_wp2_with fail
  refine (K1.out _ HE.out).mono ?_
  rintro r w1 ⟨rfl, hE1, hg1⟩
  clear K1 HE
  go_wp2_with fail
  go_loopw [7, 11] (fun v i wr => ∃ j : Nat, j ≤ n ∧ i = .int .i64 j ∧ wr.ownsRow w.heap.size 24 32 v j (namesC (many Ey.blk j e1).1) ∧ EyeAt wr E (many Ey.blk j e1).2 ∧ w.grownBy wr (some E) ∧ Hid ((many Ey.blk j e1).2.ok)) (fun _ i _ => n - (intOf i).toNat)
  case atStart => exact ⟨0, Nat.zero_le _, rfl, World.ownsRow_nil _ _ _ _, hE1, hg1, HOK⟩
  case round =>
    obtain ⟨j, hj, rfl, hown, hE2, hg, HO⟩ := hrel
    by_cases hlt2 : j < n
    · obtain ⟨i, z, hi, hz, hi1, hi2, hi3⟩ := hash_info
      have hsn := many_snoc Ey.blk j e1
      have HNX : Hid (namesC (many Ey.blk (j + 1) e1).1 = namesC (many Ey.blk j e1).1 ++ Lib.byteCells (Ey.blk (many Ey.blk j e1).2).1) := Lib.hid (by rw [hsn]; exact namesC_snoc _ _)
      have HNX2 : Hid ((many Ey.blk (j + 1) e1).2 = (Ey.blk (many Ey.blk j e1).2).2) := Lib.hid (by rw [hsn])
      have HO2 : Hid ((many Ey.blk (j + 1) e1).2.ok) := Lib.hid (by rw [HNX2.out]; exact (fun h => blk_ok h) HO.out)
      have hl32 : (Ey.blk (many Ey.blk j e1).2).1.length = 32 := (fun e => blk_len e) _
      have HS := Lib.hid (hv_size hl32)
      have HNL : Hid ((Lib.byteCells (Ey.blk (many Ey.blk j e1).2).1).length = 1 * 32) := Lib.hid (by rw [Lib.byteCells_length, hl32])
      clear hsn hl32
      have CF := Lib.hid ((fun E e _ w h => rblk_at E e w h) E _ HO.out wr hE2)
      generalize (Ey.blk (many Ey.blk j e1).2).1 = x at *
      go_wp2_with fail
      refine CF.out.mono ?_
      rintro r w3 ⟨rfl, hE3, hg3⟩
      have hown3 := hown.kept hg3 (.inr (fun e => by have := (hown.lt E e).1; omega))
      have hbase : w.heap.size ≤ (w3.alloc (.cells (bytesV x) 24)).heap.size := by simp only [World.size_alloc]; have := hg.size; have := hg3.size; omega
      have hm : j + 1 ≤ maxLen := by unfold maxLen; omega
      go_wp2_with (first
        | (with_reducible refine build_hl rfl _ rfl _ rfl HS.out ?_)
        | ((with_reducible refine wpList_append_own _ rfl _ _ 22 rfl w.heap.size 24 i z 32 32 Tryd.underlying22 hi hz hi1 hi2 hi3 (by omega) u7 j _ rfl (hown3.alloc _) ⟨w3.heap.size, 0, none⟩ 1 1 (Lib.byteCells x) rfl HNL.out (news_bytes _ _ _) (Lib.byteCells_one _) hm (by omega) hbase ?_); intro v' w4 hown4 hgr4 _))
      go_roundw
      case rel => exact ⟨j + 1, by omega, by go_num, by rw [HNX.out]; exact hown4, by rw [HNX2.out]; exact EyeAt.grown (Has.alloc hE3 _) hgr4 (fun e => by have := (hown.lt E e.symm).1; omega), gb_own (gb_trans hg hg3) _ hgr4 (fun k hk => (hown.lt k hk).1), HO2⟩
      case measure => simp [intOf]; omega
    · obtain rfl : j = n := by omega
      go_wp2_with fail
      go_ret
      exact ⟨_, rfl, hown, hE2, hg⟩
set_option maxRecDepth 100000 in
set_option maxHeartbeats 2000000 in
theorem list_heads (E : Nat) (e : Ey) (hok : e.ok) (most : Nat) (hmost : most ≤ 64) (w : World) (hE : EyeAt w E e) :
    Calls Tryd.prog 55 #[.pointer (some ⟨E, 0, none⟩), .int .i64 (most : Nat), .func (.func 56) #[] #[]] w fun r w' => ListPost E w 48 68 (e.list most Ey.hd0).1.length (headersC (e.list most Ey.hd0).1) (e.list most Ey.hd0).2 r w' := by
  have K1 := Lib.hid (fun w h => count_at E e hok (most : Nat) w h)
  have hle : (e.count (most : Nat)).1 ≤ most := count_le e most
  have hok1 := ok_count e (most : Nat)
  have hl : (e.list most Ey.hd0).1.length = (e.count (most : Nat)).1 := many_length _ _ _
  have hlist : e.list most Ey.hd0 = many Ey.hd0 (e.count (most : Nat)).1 (e.count (most : Nat)).2 := rfl
  rw [hl, hlist]
  have hn64 : (e.count (most : Nat)).1 ≤ 64 := Nat.le_trans hle hmost
  clear hl hlist hle hmost
  have hlt := hE.lt
  generalize (e.count (most : Nat)).1 = n at *
  generalize (e.count (most : Nat)).2 = e1 at *
  have HOK := Lib.hid hok1
  have HE := Lib.hid hE
  clear hok1 hok hE
  go_enter Tryd.func55, Tryd.ntmps55
  go_wp2_with fail
  refine (K1.out _ HE.out).mono ?_
  rintro r w1 ⟨rfl, hE1, hg1⟩
  clear K1 HE
  go_wp2_with fail
  go_loopw [7, 11] (fun v i wr => ∃ j : Nat, j ≤ n ∧ i = .int .i64 j ∧ wr.ownsRow w.heap.size 48 68 v j (headersC (many Ey.hd0 j e1).1) ∧ EyeAt wr E (many Ey.hd0 j e1).2 ∧ w.grownBy wr (some E) ∧ Hid ((many Ey.hd0 j e1).2.ok)) (fun _ i _ => n - (intOf i).toNat)
  case atStart => exact ⟨0, Nat.zero_le _, rfl, World.ownsRow_nil _ _ _ _, hE1, hg1, HOK⟩
  case round =>
    obtain ⟨j, hj, rfl, hown, hE2, hg, HO⟩ := hrel
    by_cases hlt2 : j < n
    · obtain ⟨i, z, hi, hz, hi1, hi2, hi3⟩ := hd_info
      have hsn := many_snoc Ey.hd0 j e1
      have HNX : Hid (headersC (many Ey.hd0 (j + 1) e1).1 = headersC (many Ey.hd0 j e1).1 ++ hdC (Ey.hd0 (many Ey.hd0 j e1).2).1) := Lib.hid (by rw [hsn]; exact headersC_snoc _ _)
      have HNX2 : Hid ((many Ey.hd0 (j + 1) e1).2 = (Ey.hd0 (many Ey.hd0 j e1).2).2) := Lib.hid (by rw [hsn])
      have HO2 : Hid ((many Ey.hd0 (j + 1) e1).2.ok) := Lib.hid (by rw [HNX2.out]; exact (fun h => hd0_ok h) HO.out)
      have hxo : (Ey.hd0 (many Ey.hd0 j e1).2).1.ok := header_ok1 (many Ey.hd0 j e1).2
      have HS := Lib.hid (hdA_size hxo)
      have HNL : Hid ((hdC (Ey.hd0 (many Ey.hd0 j e1).2).1).length = 1 * 68) := Lib.hid (by rw [hdC_length hxo])
      clear hsn hxo
      have CF := Lib.hid ((fun E e ho w h => rhd0_at E e ho w h) E _ HO.out wr hE2)
      generalize (Ey.hd0 (many Ey.hd0 j e1).2).1 = x at *
      go_wp2_with fail
      refine CF.out.mono ?_
      rintro r w3 ⟨rfl, hE3, hg3⟩
      have hown3 := hown.kept hg3 (.inr (fun e => by have := (hown.lt E e).1; omega))
      have hbase : w.heap.size ≤ (w3.alloc (.cells (hdA x) 48)).heap.size := by simp only [World.size_alloc]; have := hg.size; have := hg3.size; omega
      have hm : j + 1 ≤ maxLen := by unfold maxLen; omega
      go_wp2_with (first
        | (with_reducible refine build_hd rfl _ rfl _ rfl HS.out ?_)
        | ((with_reducible refine wpList_append_own _ rfl _ _ 25 rfl w.heap.size 48 i z 68 96 Tryd.underlying25 hi hz hi1 hi2 hi3 (by omega) u7 j _ rfl (hown3.alloc _) ⟨w3.heap.size, 0, none⟩ 1 1 (hdC x) rfl HNL.out (news_hd _ _) (hdC_one _) hm (by omega) hbase ?_); intro v' w4 hown4 hgr4 _))
      go_roundw
      case rel => exact ⟨j + 1, by omega, by go_num, by rw [HNX.out]; exact hown4, by rw [HNX2.out]; exact EyeAt.grown (Has.alloc hE3 _) hgr4 (fun e => by have := (hown.lt E e.symm).1; omega), gb_own (gb_trans hg hg3) _ hgr4 (fun k hk => (hown.lt k hk).1), HO2⟩
      case measure => simp [intOf]; omega
    · obtain rfl : j = n := by omega
      go_wp2_with fail
      go_ret
      exact ⟨_, rfl, hown, hE2, hg⟩
end Go.Proofs.YtmpllagaeoolaaaDoor
/-
  speech: read.
-/
namespace Go.Proofs.YtmpllagaeoolaaaDoor
open Go.RowKit Mem Sc
/-- a message's lists lie in memory that is new -/
def Fresh (B : Nat) (m : Mm) : Prop := (∀ p, m.ns.a = some p → B ≤ p.block) ∧ (∀ p, m.hs.a = some p → B ≤ p.block)
/-- a message is told, its lists lie in the new world, and the eye has gone on -/
def MsgPost (E : Nat) (w : World) (M : Ms) (e' : Ey) (r : Ending) (w' : World) : Prop :=
  ∃ m : Mm, r = .returned (.agg (mmA m)) ∧ Lies w' m M ∧ Fresh w.heap.size m ∧ EyeAt w' E e' ∧ w.grownBy w' (some E)
/-- what stands while a message is read: the result's box, the message's, the eye -/
structure RmS (w wr : World) (E R X : Nat) (m : Mm) (e : Ey) : Prop where
  gr : w.grownBy wr (some E)
  r : MmAt wr R (mmZ 0)
  x : MmAt wr X m
  eye : EyeAt wr E e
theorem RmS.step {w wr w' : World} {E R X : Nat} {m : Mm} {e e' : Ey} (hs : RmS w wr E R X m e) (hE : EyeAt w' E e') (hg : wr.grownBy w' (some E)) (h1 : R ≠ E) (h2 : X ≠ E) : RmS w w' E R X m e' :=
  ⟨gb_trans hs.gr hg, hs.r.grown hg (fun h => h1 (Option.some.inj h)), hs.x.grown hg (fun h => h2 (Option.some.inj h)), hE⟩
theorem RmS.put {w wr : World} {E R X : Nat} {m m' : Mm} {e : Ey} (hs : RmS w wr E R X m e) (o : Nat) (u : Value) (hX : MmAt (wr.setCell ⟨X, o, none⟩ u) X m') (h1 : R ≠ X) (h2 : E ≠ X) (h3 : w.heap.size ≤ X) : RmS w (wr.setCell ⟨X, o, none⟩ u) E R X m' e :=
  ⟨gb_setCellNew hs.gr _ h3 _, Has.other hs.r _ _ h1, hX, Has.other hs.eye _ _ h2⟩
theorem RmS.putName {w wr : World} {E R X : Nat} {m m' : Mm} {e : Ey} (hs : RmS w wr E R X m e) (o : Nat) (vs : List Value) (hX : MmAt (wr.setCells X o vs) X m') (h1 : R ≠ X) (h2 : E ≠ X) (h3 : w.heap.size ≤ X) : RmS w (wr.setCells X o vs) E R X m' e :=
  ⟨gb_setCells hs.gr _ _ _ h3, setCells_has hs.r h1, hX, setCells_has hs.eye h2⟩
theorem owns_setCell {w : World} {base : Nat} {ty : TypeId} {size : Nat} {v : Value} {n : Nat} {cs : List Value} (h : w.ownsRow base ty size v n cs) (X o : Nat) (u : Value) (hX : X < base) : (w.setCell ⟨X, o, none⟩ u).ownsRow base ty size v n cs :=
  h.kept (row := some X) (gb_setCell (gb_refl _ _) o u) (.inr (fun e => by have := (h.lt X e).1; omega))
theorem owns_setCells {w : World} {base : Nat} {ty : TypeId} {size : Nat} {v : Value} {n : Nat} {cs : List Value} (h : w.ownsRow base ty size v n cs) (X o : Nat) (vs : List Value) (hX : X < base) : (w.setCells X o vs).ownsRow base ty size v n cs := by
  obtain ⟨h1, h2, h3, h4⟩ := setCells_rest X vs o w
  exact h.kept (row := some X) ⟨h1, h2, h3, Nat.le_of_eq h4.symm, fun k hk hn => setCells_other X k (fun e => hn (by rw [e])) vs o w⟩ (.inr (fun e => by have := (h.lt X e).1; omega))
theorem owns_setRow {w : World} {base : Nat} {ty : TypeId} {size : Nat} {v : Value} {n : Nat} {cs : List Value} (h : w.ownsRow base ty size v n cs) (X : Nat) (vs : Array Value) (hX : X < base) : (w.setRow X vs).ownsRow base ty size v n cs :=
  h.kept (row := some X) (gb_setRow (gb_refl _ _) vs) (.inr (fun e => by have := (h.lt X e).1; omega))
theorem own_new {w : World} {base : Nat} {ty : TypeId} {size : Nat} {a : Option Addr} {m c : Nat} {n : Nat} {cs : List Value} {B : Nat} (h : w.ownsRow base ty size (.slice a m c) n cs) (p : Addr) (hp : a = some p) (hB : B ≤ base) : B ≤ p.block := by
  subst hp
  have := (h.lt p.block rfl).1
  omega
theorem owns_eye {w w' : World} {base : Nat} {ty : TypeId} {size : Nat} {v : Value} {n : Nat} {cs : List Value} {E : Nat} (h : w.ownsRow base ty size v n cs) (hg : w.grownBy w' (some E)) (hE : E < base) : w'.ownsRow base ty size v n cs :=
  h.kept hg (.inr (fun e => by have := (h.lt E e).1; omega))
theorem many_all {α : Type} {f : Ey → α × Ey} {G : α → Prop} (h : ∀ e, G (f e).1) : ∀ (n : Nat) (e : Ey), ∀ x ∈ (many f n e).1, G x
  | 0, _, x, hx => by cases hx
  | n + 1, e, x, hx => by
    rcases List.mem_cons.1 hx with rfl | hx
    · exact h e
    · exact many_all h n _ x hx
section
variable {w : World} {ops : Array Oper} {rest : List Oper} {o : Oper} {a : Act} {Q : Exit → Act → World → Prop}
theorem mm_move (hgd : o.guard = none) (x : Operand) (ho : o.op = .move x) (v : Value) (hx : a.eval x = v) (hk : wpList Tryd.prog ops Q rest (a.put o.dst v) w) : wpList Tryd.prog ops Q (o :: rest) a w := by
  subst hx
  refine wpList_plain hgd fun _ hK => ?_
  unfold Oper.wp execOp
  simp only [ho]
  exact hK _ _ hk
end
set_option maxRecDepth 100000 in
set_option maxHeartbeats 1600000 in
theorem rd_0 (k : Int) (E : Nat) (e : Ey) (h1 : k ≠ 1) (h3 : k ≠ 3) (h4 : k ≠ 4) (h5 : k ≠ 5) (h6 : k ≠ 6) (h7 : k ≠ 7) (w : World) (hE : EyeAt w E e) :
    Calls Tryd.prog 36 #[.pointer (some ⟨E, 0, none⟩), .int .i64 k] w fun r w' => MsgPost E w ⟨k, 0, 0, 0, 0, [], z32, []⟩ e r w' := by
  have t1 : (k == 1) = false := beq_eq_false_iff_ne.2 h1
  have t3 : (k == 3) = false := beq_eq_false_iff_ne.2 h3
  have t4 : (k == 4) = false := beq_eq_false_iff_ne.2 h4
  have t5 : (k == 5) = false := beq_eq_false_iff_ne.2 h5
  have t6 : (k == 6) = false := beq_eq_false_iff_ne.2 h6
  have t7 : (k == 7) = false := beq_eq_false_iff_ne.2 h7
  clear h1 h3 h4 h5 h6 h7
  have hlt := hE.lt
  go_enter Tryd.func36, Tryd.ntmps36
  go_upto_region 1 with fail
  have hR := mm_newz w
  have hb1 : Below w.heap.size w (w.alloc (.cells (mmA (mmZ 0)) 27)) := (Below.refl _ _).alloc (Nat.le_refl _) _
  have hE1 : EyeAt (w.alloc (.cells (mmA (mmZ 0)) 27)) E e := hE.on hb1
  rw [mmZ_lit 0] at hb1 hE1
  obtain ⟨R, hRe⟩ : ∃ R, R = w.heap.size := ⟨_, rfl⟩
  have hsz : (w.alloc (.cells (mmA (mmZ 0)) 27)).heap.size = w.heap.size + 1 := by simp only [World.size_alloc]
  rw [mmZ_lit 0] at hsz
  rw [← hRe] at hR ⊢
  generalize World.alloc _ _ = w1 at *
  obtain ⟨X, hX⟩ : ∃ X, X = w1.heap.size := ⟨_, rfl⟩
  have h1 : R ≠ E := by omega
  have h2 : X ≠ E := by omega
  have h3 : R ≠ X := by omega
  have h4 : w.heap.size ≤ X := by omega
  have h5 : w.heap.size ≤ R := by omega
  have HX := Lib.hid hX.symm
  clear hX hRe hsz hE hlt
  refine wp_region_lit ?_
  refine mm_move rfl _ rfl (.int .i64 k) rfl ?_
  refine mm_make rfl _ rfl k rfl rfl rfl rfl _ _ rfl X HX.out rfl rfl ?_
  intro w2 hX2 hb2 hw2
  simp only [Act.put, List.setIfInBounds_toArray, List.set_cons_zero, List.set_cons_succ]
  have hs : RmS w w2 E R X (mmZ k) e := ⟨gb_below (hb1.trans (hb2.mono hb1.size)) _, hR.on hb2, hX2, hE1.on hb2⟩
  clear hX2 hb2 hw2 hb1 hR hE1 HX
  have hr := hs.r
  have hx := hs.x
  have hz0 : (mmA (mmZ 0)).size = 39 := rfl
  have hz : (mmA (mmZ k)).size = 39 := mmA_size (rfl)
  generalize hM : ((mmZ k) : Mm) = M at *
  have HM := Lib.hid hM
  clear hM
  go_wp2_with (first
    | (with_reducible refine mm_load rfl _ rfl X rfl hx hz ?_)
    | (with_reducible refine mm_store rfl _ _ rfl R _ M rfl rfl rfl hz hr hz0 ?_))
  refine bodyPost_ret (v := .agg (mmA M)) (mm_results Tryd.results36 _ R rfl (Has.row hr _) hz) rfl ⟨M, rfl, ?_, (by rw [← HM.out]; exact ⟨fun p hp => (by cases hp), fun p hp => (by cases hp)⟩), Has.otherRow hs.eye _ _ (Ne.symm h1), gb_setRowNew hs.gr R h5 _⟩
  rw [← HM.out]
  exact ⟨rfl, rfl, rfl, rfl, rfl, rfl, rfl, Nat.zero_le _, names_nil _ _, rfl, Nat.zero_le _, heads_nil _ _, ⟨by simp, z32_length, by simp⟩⟩
set_option maxRecDepth 100000 in
set_option maxHeartbeats 1600000 in
theorem rd_6 (k : Int) (E : Nat) (e : Ey) (hk : k = 6) (w : World) (hE : EyeAt w E e) :
    Calls Tryd.prog 36 #[.pointer (some ⟨E, 0, none⟩), .int .i64 k] w fun r w' => MsgPost E w ⟨k, 0, 0, 0, ((e.get 7).1 : Nat), [], z32, []⟩ (e.get 7).2 r w' := by
  have t1 : (k == 1) = false := by rw [hk]; rfl
  have t3 : (k == 3) = false := by rw [hk]; rfl
  have t4 : (k == 4) = false := by rw [hk]; rfl
  have t5 : (k == 5) = false := by rw [hk]; rfl
  have t6 : (k == 6) = true := by rw [hk]; rfl
  clear hk
  have hlt := hE.lt
  go_enter Tryd.func36, Tryd.ntmps36
  go_upto_region 1 with fail
  have hR := mm_newz w
  have hb1 : Below w.heap.size w (w.alloc (.cells (mmA (mmZ 0)) 27)) := (Below.refl _ _).alloc (Nat.le_refl _) _
  have hE1 : EyeAt (w.alloc (.cells (mmA (mmZ 0)) 27)) E e := hE.on hb1
  rw [mmZ_lit 0] at hb1 hE1
  obtain ⟨R, hRe⟩ : ∃ R, R = w.heap.size := ⟨_, rfl⟩
  have hsz : (w.alloc (.cells (mmA (mmZ 0)) 27)).heap.size = w.heap.size + 1 := by simp only [World.size_alloc]
  rw [mmZ_lit 0] at hsz
  rw [← hRe] at hR ⊢
  generalize World.alloc _ _ = w1 at *
  obtain ⟨X, hX⟩ : ∃ X, X = w1.heap.size := ⟨_, rfl⟩
  have h1 : R ≠ E := by omega
  have h2 : X ≠ E := by omega
  have h3 : R ≠ X := by omega
  have h4 : w.heap.size ≤ X := by omega
  have h5 : w.heap.size ≤ R := by omega
  have HX := Lib.hid hX.symm
  clear hX hRe hsz hE hlt
  refine wp_region_lit ?_
  refine mm_move rfl _ rfl (.int .i64 k) rfl ?_
  refine mm_make rfl _ rfl k rfl rfl rfl rfl _ _ rfl X HX.out rfl rfl ?_
  intro w2 hX2 hb2 hw2
  simp only [Act.put, List.setIfInBounds_toArray, List.set_cons_zero, List.set_cons_succ]
  have hs : RmS w w2 E R X (mmZ k) e := ⟨gb_below (hb1.trans (hb2.mono hb1.size)) _, hR.on hb2, hX2, hE1.on hb2⟩
  clear hX2 hb2 hw2 hb1 hR hE1 HX
  have C := Lib.hid (get_at E e 7 _ hs.eye)
  generalize hp1 : (Ey.get e 7).1 = n1 at *
  have P1 := Lib.hid hp1
  clear hp1
  go_wp2_with fail
  refine C.out.mono ?_
  rintro r w10 ⟨rfl, hE2, hg2⟩
  replace hs : RmS w w10 E R X (mmZ k) (Ey.get e 7).2 := hs.step hE2 hg2 h1 h2
  have c := hs.x.nb
  have f := hs.x.free 4
  have hX := hs.x.setNb (n1 : Nat)
  replace hs : RmS w (w10.setCell ⟨X, 4, none⟩ (.int .i64 (n1 : Nat))) E R X ⟨k, 0, 0, 0, (n1 : Nat), slZ, z32, slZ⟩ (Ey.get e 7).2 := hs.put 4 _ hX h3 (Ne.symm h2) h4
  clear C hE2 hg2 hX
  go_upto_region 19 with fail
  generalize World.setCell _ _ _ = v1 at *
  clear c f
  have hr := hs.r
  have hx := hs.x
  have hz0 : (mmA (mmZ 0)).size = 39 := rfl
  have hz : (mmA ⟨k, 0, 0, 0, (n1 : Nat), slZ, z32, slZ⟩).size = 39 := mmA_size (rfl)
  generalize hM : (⟨k, 0, 0, 0, (n1 : Nat), slZ, z32, slZ⟩ : Mm) = M at *
  have HM := Lib.hid hM
  clear hM
  go_wp2_with (first
    | (with_reducible refine mm_load rfl _ rfl X rfl hx hz ?_)
    | (with_reducible refine mm_store rfl _ _ rfl R _ M rfl rfl rfl hz hr hz0 ?_))
  refine bodyPost_ret (v := .agg (mmA M)) (mm_results Tryd.results36 _ R rfl (Has.row hr _) hz) rfl ⟨M, rfl, ?_, (by rw [← HM.out]; exact ⟨fun p hp => (by cases hp), fun p hp => (by cases hp)⟩), Has.otherRow hs.eye _ _ (Ne.symm h1), gb_setRowNew hs.gr R h5 _⟩
  rw [← HM.out]
  rw [P1.out]
  exact ⟨rfl, rfl, rfl, rfl, rfl, rfl, rfl, Nat.zero_le _, names_nil _ _, rfl, Nat.zero_le _, heads_nil _ _, ⟨by simp, z32_length, by simp⟩⟩
set_option maxRecDepth 100000 in
set_option maxHeartbeats 1600000 in
theorem rd_7 (k : Int) (E : Nat) (e : Ey) (hk : k = 7) (w : World) (hE : EyeAt w E e) :
    Calls Tryd.prog 36 #[.pointer (some ⟨E, 0, none⟩), .int .i64 k] w fun r w' => MsgPost E w ⟨k, 0, 0, 0, ((e.get 7).1 : Nat), [], z32, []⟩ (e.get 7).2 r w' := by
  have t1 : (k == 1) = false := by rw [hk]; rfl
  have t3 : (k == 3) = false := by rw [hk]; rfl
  have t4 : (k == 4) = false := by rw [hk]; rfl
  have t5 : (k == 5) = false := by rw [hk]; rfl
  have t6 : (k == 6) = false := by rw [hk]; rfl
  have t7 : (k == 7) = true := by rw [hk]; rfl
  clear hk
  have hlt := hE.lt
  go_enter Tryd.func36, Tryd.ntmps36
  go_upto_region 1 with fail
  have hR := mm_newz w
  have hb1 : Below w.heap.size w (w.alloc (.cells (mmA (mmZ 0)) 27)) := (Below.refl _ _).alloc (Nat.le_refl _) _
  have hE1 : EyeAt (w.alloc (.cells (mmA (mmZ 0)) 27)) E e := hE.on hb1
  rw [mmZ_lit 0] at hb1 hE1
  obtain ⟨R, hRe⟩ : ∃ R, R = w.heap.size := ⟨_, rfl⟩
  have hsz : (w.alloc (.cells (mmA (mmZ 0)) 27)).heap.size = w.heap.size + 1 := by simp only [World.size_alloc]
  rw [mmZ_lit 0] at hsz
  rw [← hRe] at hR ⊢
  generalize World.alloc _ _ = w1 at *
  obtain ⟨X, hX⟩ : ∃ X, X = w1.heap.size := ⟨_, rfl⟩
  have h1 : R ≠ E := by omega
  have h2 : X ≠ E := by omega
  have h3 : R ≠ X := by omega
  have h4 : w.heap.size ≤ X := by omega
  have h5 : w.heap.size ≤ R := by omega
  have HX := Lib.hid hX.symm
  clear hX hRe hsz hE hlt
  refine wp_region_lit ?_
  refine mm_move rfl _ rfl (.int .i64 k) rfl ?_
  refine mm_make rfl _ rfl k rfl rfl rfl rfl _ _ rfl X HX.out rfl rfl ?_
  intro w2 hX2 hb2 hw2
  simp only [Act.put, List.setIfInBounds_toArray, List.set_cons_zero, List.set_cons_succ]
  have hs : RmS w w2 E R X (mmZ k) e := ⟨gb_below (hb1.trans (hb2.mono hb1.size)) _, hR.on hb2, hX2, hE1.on hb2⟩
  clear hX2 hb2 hw2 hb1 hR hE1 HX
  have C := Lib.hid (get_at E e 7 _ hs.eye)
  generalize hp1 : (Ey.get e 7).1 = n1 at *
  have P1 := Lib.hid hp1
  clear hp1
  go_wp2_with fail
  refine C.out.mono ?_
  rintro r w10 ⟨rfl, hE2, hg2⟩
  replace hs : RmS w w10 E R X (mmZ k) (Ey.get e 7).2 := hs.step hE2 hg2 h1 h2
  have c := hs.x.nb
  have f := hs.x.free 4
  have hX := hs.x.setNb (n1 : Nat)
  replace hs : RmS w (w10.setCell ⟨X, 4, none⟩ (.int .i64 (n1 : Nat))) E R X ⟨k, 0, 0, 0, (n1 : Nat), slZ, z32, slZ⟩ (Ey.get e 7).2 := hs.put 4 _ hX h3 (Ne.symm h2) h4
  clear C hE2 hg2 hX
  go_upto_region 19 with fail
  generalize World.setCell _ _ _ = v1 at *
  clear c f
  have hr := hs.r
  have hx := hs.x
  have hz0 : (mmA (mmZ 0)).size = 39 := rfl
  have hz : (mmA ⟨k, 0, 0, 0, (n1 : Nat), slZ, z32, slZ⟩).size = 39 := mmA_size (rfl)
  generalize hM : (⟨k, 0, 0, 0, (n1 : Nat), slZ, z32, slZ⟩ : Mm) = M at *
  have HM := Lib.hid hM
  clear hM
  go_wp2_with (first
    | (with_reducible refine mm_load rfl _ rfl X rfl hx hz ?_)
    | (with_reducible refine mm_store rfl _ _ rfl R _ M rfl rfl rfl hz hr hz0 ?_))
  refine bodyPost_ret (v := .agg (mmA M)) (mm_results Tryd.results36 _ R rfl (Has.row hr _) hz) rfl ⟨M, rfl, ?_, (by rw [← HM.out]; exact ⟨fun p hp => (by cases hp), fun p hp => (by cases hp)⟩), Has.otherRow hs.eye _ _ (Ne.symm h1), gb_setRowNew hs.gr R h5 _⟩
  rw [← HM.out]
  rw [P1.out]
  exact ⟨rfl, rfl, rfl, rfl, rfl, rfl, rfl, Nat.zero_le _, names_nil _ _, rfl, Nat.zero_le _, heads_nil _ _, ⟨by simp, z32_length, by simp⟩⟩
set_option maxRecDepth 100000 in
set_option maxHeartbeats 1600000 in
theorem rd_1 (k : Int) (E : Nat) (e : Ey) (hk : k = 1) (w : World) (hE : EyeAt w E e) :
    Calls Tryd.prog 36 #[.pointer (some ⟨E, 0, none⟩), .int .i64 k] w fun r w' => MsgPost E w ⟨k, ((e.get 4).1 : Nat), ((Ey.get (Ey.get (Ey.get e 4).2 4).2 7).1 : Nat), ((Ey.get (Ey.get e 4).2 4).1 : Nat), ((Ey.get (Ey.get (Ey.get (Ey.get e 4).2 4).2 7).2 7).1 : Nat), [], z32, []⟩ (Ey.get (Ey.get (Ey.get (Ey.get e 4).2 4).2 7).2 7).2 r w' := by
  have t1 : (k == 1) = true := by rw [hk]; rfl
  clear hk
  have hlt := hE.lt
  go_enter Tryd.func36, Tryd.ntmps36
  go_upto_region 1 with fail
  have hR := mm_newz w
  have hb1 : Below w.heap.size w (w.alloc (.cells (mmA (mmZ 0)) 27)) := (Below.refl _ _).alloc (Nat.le_refl _) _
  have hE1 : EyeAt (w.alloc (.cells (mmA (mmZ 0)) 27)) E e := hE.on hb1
  rw [mmZ_lit 0] at hb1 hE1
  obtain ⟨R, hRe⟩ : ∃ R, R = w.heap.size := ⟨_, rfl⟩
  have hsz : (w.alloc (.cells (mmA (mmZ 0)) 27)).heap.size = w.heap.size + 1 := by simp only [World.size_alloc]
  rw [mmZ_lit 0] at hsz
  rw [← hRe] at hR ⊢
  generalize World.alloc _ _ = w1 at *
  obtain ⟨X, hX⟩ : ∃ X, X = w1.heap.size := ⟨_, rfl⟩
  have h1 : R ≠ E := by omega
  have h2 : X ≠ E := by omega
  have h3 : R ≠ X := by omega
  have h4 : w.heap.size ≤ X := by omega
  have h5 : w.heap.size ≤ R := by omega
  have HX := Lib.hid hX.symm
  clear hX hRe hsz hE hlt
  refine wp_region_lit ?_
  refine mm_move rfl _ rfl (.int .i64 k) rfl ?_
  refine mm_make rfl _ rfl k rfl rfl rfl rfl _ _ rfl X HX.out rfl rfl ?_
  intro w2 hX2 hb2 hw2
  simp only [Act.put, List.setIfInBounds_toArray, List.set_cons_zero, List.set_cons_succ]
  have hs : RmS w w2 E R X (mmZ k) e := ⟨gb_below (hb1.trans (hb2.mono hb1.size)) _, hR.on hb2, hX2, hE1.on hb2⟩
  clear hX2 hb2 hw2 hb1 hR hE1 HX
  have C := Lib.hid (get_at E e 4 _ hs.eye)
  generalize hp1 : (Ey.get e 4).1 = n1 at *
  have P1 := Lib.hid hp1
  clear hp1
  go_wp2_with fail
  refine C.out.mono ?_
  rintro r w10 ⟨rfl, hE2, hg2⟩
  replace hs : RmS w w10 E R X (mmZ k) (Ey.get e 4).2 := hs.step hE2 hg2 h1 h2
  have c := hs.x.ver
  have f := hs.x.free 1
  have hX := hs.x.setVer (n1 : Nat)
  replace hs : RmS w (w10.setCell ⟨X, 1, none⟩ (.int .i64 (n1 : Nat))) E R X ⟨k, (n1 : Nat), 0, 0, 0, slZ, z32, slZ⟩ (Ey.get e 4).2 := hs.put 1 _ hX h3 (Ne.symm h2) h4
  clear C hE2 hg2 hX
  go_upto_region 5 with fail
  generalize World.setCell _ _ _ = v1 at *
  clear c f
  have C := Lib.hid (get_at E (Ey.get e 4).2 4 _ hs.eye)
  generalize hp2 : (Ey.get (Ey.get e 4).2 4).1 = n2 at *
  have P2 := Lib.hid hp2
  clear hp2
  go_wp2_with fail
  refine C.out.mono ?_
  rintro r w20 ⟨rfl, hE2, hg2⟩
  replace hs : RmS w w20 E R X ⟨k, (n1 : Nat), 0, 0, 0, slZ, z32, slZ⟩ (Ey.get (Ey.get e 4).2 4).2 := hs.step hE2 hg2 h1 h2
  have c := hs.x.height
  have f := hs.x.free 3
  have hX := hs.x.setHeight (n2 : Nat)
  replace hs : RmS w (w20.setCell ⟨X, 3, none⟩ (.int .i64 (n2 : Nat))) E R X ⟨k, (n1 : Nat), 0, (n2 : Nat), 0, slZ, z32, slZ⟩ (Ey.get (Ey.get e 4).2 4).2 := hs.put 3 _ hX h3 (Ne.symm h2) h4
  clear C hE2 hg2 hX
  go_upto_region 6 with fail
  generalize World.setCell _ _ _ = v2 at *
  clear c f
  have C := Lib.hid (get_at E (Ey.get (Ey.get e 4).2 4).2 7 _ hs.eye)
  generalize hp3 : (Ey.get (Ey.get (Ey.get e 4).2 4).2 7).1 = n3 at *
  have P3 := Lib.hid hp3
  clear hp3
  go_wp2_with fail
  refine C.out.mono ?_
  rintro r w30 ⟨rfl, hE2, hg2⟩
  replace hs : RmS w w30 E R X ⟨k, (n1 : Nat), 0, (n2 : Nat), 0, slZ, z32, slZ⟩ (Ey.get (Ey.get (Ey.get e 4).2 4).2 7).2 := hs.step hE2 hg2 h1 h2
  have c := hs.x.serv
  have f := hs.x.free 2
  have hX := hs.x.setServ (n3 : Nat)
  replace hs : RmS w (w30.setCell ⟨X, 2, none⟩ (.int .i64 (n3 : Nat))) E R X ⟨k, (n1 : Nat), (n3 : Nat), (n2 : Nat), 0, slZ, z32, slZ⟩ (Ey.get (Ey.get (Ey.get e 4).2 4).2 7).2 := hs.put 2 _ hX h3 (Ne.symm h2) h4
  clear C hE2 hg2 hX
  go_upto_region 7 with fail
  generalize World.setCell _ _ _ = v3 at *
  clear c f
  have C := Lib.hid (get_at E (Ey.get (Ey.get (Ey.get e 4).2 4).2 7).2 7 _ hs.eye)
  generalize hp4 : (Ey.get (Ey.get (Ey.get (Ey.get e 4).2 4).2 7).2 7).1 = n4 at *
  have P4 := Lib.hid hp4
  clear hp4
  go_wp2_with fail
  refine C.out.mono ?_
  rintro r w40 ⟨rfl, hE2, hg2⟩
  replace hs : RmS w w40 E R X ⟨k, (n1 : Nat), (n3 : Nat), (n2 : Nat), 0, slZ, z32, slZ⟩ (Ey.get (Ey.get (Ey.get (Ey.get e 4).2 4).2 7).2 7).2 := hs.step hE2 hg2 h1 h2
  have c := hs.x.nb
  have f := hs.x.free 4
  have hX := hs.x.setNb (n4 : Nat)
  replace hs : RmS w (w40.setCell ⟨X, 4, none⟩ (.int .i64 (n4 : Nat))) E R X ⟨k, (n1 : Nat), (n3 : Nat), (n2 : Nat), (n4 : Nat), slZ, z32, slZ⟩ (Ey.get (Ey.get (Ey.get (Ey.get e 4).2 4).2 7).2 7).2 := hs.put 4 _ hX h3 (Ne.symm h2) h4
  clear C hE2 hg2 hX
  go_upto_region 19 with fail
  generalize World.setCell _ _ _ = v4 at *
  clear c f
  have hr := hs.r
  have hx := hs.x
  have hz0 : (mmA (mmZ 0)).size = 39 := rfl
  have hz : (mmA ⟨k, (n1 : Nat), (n3 : Nat), (n2 : Nat), (n4 : Nat), slZ, z32, slZ⟩).size = 39 := mmA_size (rfl)
  generalize hM : (⟨k, (n1 : Nat), (n3 : Nat), (n2 : Nat), (n4 : Nat), slZ, z32, slZ⟩ : Mm) = M at *
  have HM := Lib.hid hM
  clear hM
  go_wp2_with (first
    | (with_reducible refine mm_load rfl _ rfl X rfl hx hz ?_)
    | (with_reducible refine mm_store rfl _ _ rfl R _ M rfl rfl rfl hz hr hz0 ?_))
  refine bodyPost_ret (v := .agg (mmA M)) (mm_results Tryd.results36 _ R rfl (Has.row hr _) hz) rfl ⟨M, rfl, ?_, (by rw [← HM.out]; exact ⟨fun p hp => (by cases hp), fun p hp => (by cases hp)⟩), Has.otherRow hs.eye _ _ (Ne.symm h1), gb_setRowNew hs.gr R h5 _⟩
  rw [← HM.out]
  rw [P1.out, P2.out, P3.out, P4.out]
  exact ⟨rfl, rfl, rfl, rfl, rfl, rfl, rfl, Nat.zero_le _, names_nil _ _, rfl, Nat.zero_le _, heads_nil _ _, ⟨by simp, z32_length, by simp⟩⟩
set_option maxRecDepth 100000 in
set_option maxHeartbeats 1600000 in
theorem rd_4 (k : Int) (E : Nat) (e : Ey) (hok : e.ok) (hk : k = 4) (w : World) (hE : EyeAt w E e) :
    Calls Tryd.prog 36 #[.pointer (some ⟨E, 0, none⟩), .int .i64 k] w fun r w' => MsgPost E w ⟨k, 0, 0, 0, 0, [], z32, (e.list 64 Ey.hd0).1⟩ (e.list 64 Ey.hd0).2 r w' := by
  have t1 : (k == 1) = false := by rw [hk]; rfl
  have t3 : (k == 3) = false := by rw [hk]; rfl
  have t4 : (k == 4) = true := by rw [hk]; rfl
  clear hk
  have hlt := hE.lt
  go_enter Tryd.func36, Tryd.ntmps36
  go_upto_region 1 with fail
  have hR := mm_newz w
  have hb1 : Below w.heap.size w (w.alloc (.cells (mmA (mmZ 0)) 27)) := (Below.refl _ _).alloc (Nat.le_refl _) _
  have hE1 : EyeAt (w.alloc (.cells (mmA (mmZ 0)) 27)) E e := hE.on hb1
  rw [mmZ_lit 0] at hb1 hE1
  obtain ⟨R, hRe⟩ : ∃ R, R = w.heap.size := ⟨_, rfl⟩
  have hsz : (w.alloc (.cells (mmA (mmZ 0)) 27)).heap.size = w.heap.size + 1 := by simp only [World.size_alloc]
  rw [mmZ_lit 0] at hsz
  rw [← hRe] at hR ⊢
  generalize World.alloc _ _ = w1 at *
  obtain ⟨X, hX⟩ : ∃ X, X = w1.heap.size := ⟨_, rfl⟩
  have h1 : R ≠ E := by omega
  have h2 : X ≠ E := by omega
  have h3 : R ≠ X := by omega
  have h4 : w.heap.size ≤ X := by omega
  have h5 : w.heap.size ≤ R := by omega
  have HX := Lib.hid hX.symm
  clear hX hRe hsz hE hlt
  refine wp_region_lit ?_
  refine mm_move rfl _ rfl (.int .i64 k) rfl ?_
  refine mm_make rfl _ rfl k rfl rfl rfl rfl _ _ rfl X HX.out rfl rfl ?_
  intro w2 hX2 hb2 hw2
  simp only [Act.put, List.setIfInBounds_toArray, List.set_cons_zero, List.set_cons_succ]
  have hs : RmS w w2 E R X (mmZ k) e := ⟨gb_below (hb1.trans (hb2.mono hb1.size)) _, hR.on hb2, hX2, hE1.on hb2⟩
  clear hX2 hb2 hw2 hb1 hR hE1 HX
  have OKL : Hid (∀ x ∈ (Ey.list e 64 Ey.hd0).1, x.ok) := Lib.hid (many_all (f := Ey.hd0) (G := fun x => x.ok) (fun e => header_ok1 e) _ _)
  have LEN : Hid ((Ey.list e 64 Ey.hd0).1.length ≤ 64) := Lib.hid (by show (many Ey.hd0 _ _).1.length ≤ 64; rw [many_length]; exact Nat.le_trans (count_le e 64) (by omega))
  have C : Hid (Calls Tryd.prog 55 #[.pointer (some ⟨E, 0, none⟩), .int .i64 64, .func (.func 56) #[] #[]] w2 fun r w' => ListPost E w2 48 68 (Ey.list e 64 Ey.hd0).1.length (headersC (Ey.list e 64 Ey.hd0).1) (Ey.list e 64 Ey.hd0).2 r w') := Lib.hid (list_heads E e hok 64 (by omega) _ hs.eye)
  generalize hq : (Ey.list e 64 Ey.hd0).1 = ls at *
  have QL := Lib.hid hq
  clear hq
  obtain ⟨e9, he9⟩ : ∃ e9, e9 = (Ey.list e 64 Ey.hd0).2 := ⟨_, rfl⟩
  rw [← he9] at C
  have Q9 := Lib.hid he9
  clear he9
  go_wp2_with fail
  refine C.out.mono ?_
  rintro r w30 ⟨sv, rfl, hown, hE2, hg2⟩
  have hXb : X < w2.heap.size := hs.x.lt
  have hRb : R < w2.heap.size := hs.r.lt
  have hEb : E < w2.heap.size := hs.eye.lt
  obtain ⟨sa, sn, sc, rfl⟩ := ownsRow_slice hown
  replace hs : RmS w w30 E R X ⟨k, 0, 0, 0, 0, slZ, z32, slZ⟩ e9 := hs.step hE2 hg2 h1 h2
  have c := hs.x.hs (by rfl)
  have f := hs.x.free 38
  have hX := hs.x.setHs (by rfl) sa sn sc
  replace hown := owns_setCell hown X 38 (.slice sa sn sc) hXb
  replace hs : RmS w (w30.setCell ⟨X, 38, none⟩ (.slice sa sn sc)) E R X ⟨k, 0, 0, 0, 0, slZ, z32, ⟨sa, sn, sc⟩⟩ e9 := hs.put 38 _ hX h3 (Ne.symm h2) h4
  clear C hE2 hg2 hX
  go_upto_region 19 with fail
  generalize World.setCell _ _ _ = v1 at *
  clear c f
  have hr := hs.r
  have hx := hs.x
  have hz0 : (mmA (mmZ 0)).size = 39 := rfl
  have hz : (mmA ⟨k, 0, 0, 0, 0, slZ, z32, ⟨sa, sn, sc⟩⟩).size = 39 := mmA_size (rfl)
  generalize hM : (⟨k, 0, 0, 0, 0, slZ, z32, ⟨sa, sn, sc⟩⟩ : Mm) = M at *
  have HM := Lib.hid hM
  clear hM
  go_wp2_with (first
    | (with_reducible refine mm_load rfl _ rfl X rfl hx hz ?_)
    | (with_reducible refine mm_store rfl _ _ rfl R _ M rfl rfl rfl hz hr hz0 ?_))
  refine bodyPost_ret (v := .agg (mmA M)) (mm_results Tryd.results36 _ R rfl (Has.row hr _) hz) rfl ⟨M, rfl, ?_, (by rw [← HM.out]; exact ⟨fun p hp => (by cases hp), fun p hp => (own_new hown p hp (by omega))⟩), (by rw [← Q9.out]; exact Has.otherRow hs.eye _ _ (Ne.symm h1)), gb_setRowNew hs.gr R h5 _⟩
  rw [← HM.out]
  have hsn : sn = ls.length := by
    rcases (owns_setRow hown R (mmA M) hRb).2 with ⟨q1, q2⟩ | ⟨g, cap, cur, q1, _⟩
    · cases q1; omega
    · cases q1; rfl
  obtain ⟨a', c', hv, hN⟩ := owns_headers (owns_setRow hown R (mmA M) hRb) rfl OKL.out
  obtain ⟨rfl, rfl, rfl⟩ : sa = a' ∧ sn = ls.length ∧ sc = c' := by cases hv; exact ⟨rfl, rfl, rfl⟩
  have hlen := LEN.out
  rw [← HM.out] at hN
  rw [QL.out]
  have := OKL.out
  exact ⟨rfl, rfl, rfl, rfl, rfl, rfl, rfl, Nat.zero_le _, names_nil _ _, rfl, by show ls.length ≤ _; omega, hN, ⟨by simp, z32_length, this⟩⟩
set_option maxRecDepth 100000 in
set_option maxHeartbeats 1600000 in
theorem rd_5 (k : Int) (E : Nat) (e : Ey) (hok : e.ok) (hk : k = 5) (w : World) (hE : EyeAt w E e) :
    Calls Tryd.prog 36 #[.pointer (some ⟨E, 0, none⟩), .int .i64 k] w fun r w' => MsgPost E w ⟨k, 0, 0, 0, 0, (e.list 32 Ey.blk).1, z32, []⟩ (e.list 32 Ey.blk).2 r w' := by
  have t1 : (k == 1) = false := by rw [hk]; rfl
  have t3 : (k == 3) = false := by rw [hk]; rfl
  have t4 : (k == 4) = false := by rw [hk]; rfl
  have t5 : (k == 5) = true := by rw [hk]; rfl
  clear hk
  have hlt := hE.lt
  go_enter Tryd.func36, Tryd.ntmps36
  go_upto_region 1 with fail
  have hR := mm_newz w
  have hb1 : Below w.heap.size w (w.alloc (.cells (mmA (mmZ 0)) 27)) := (Below.refl _ _).alloc (Nat.le_refl _) _
  have hE1 : EyeAt (w.alloc (.cells (mmA (mmZ 0)) 27)) E e := hE.on hb1
  rw [mmZ_lit 0] at hb1 hE1
  obtain ⟨R, hRe⟩ : ∃ R, R = w.heap.size := ⟨_, rfl⟩
  have hsz : (w.alloc (.cells (mmA (mmZ 0)) 27)).heap.size = w.heap.size + 1 := by simp only [World.size_alloc]
  rw [mmZ_lit 0] at hsz
  rw [← hRe] at hR ⊢
  generalize World.alloc _ _ = w1 at *
  obtain ⟨X, hX⟩ : ∃ X, X = w1.heap.size := ⟨_, rfl⟩
  have h1 : R ≠ E := by omega
  have h2 : X ≠ E := by omega
  have h3 : R ≠ X := by omega
  have h4 : w.heap.size ≤ X := by omega
  have h5 : w.heap.size ≤ R := by omega
  have HX := Lib.hid hX.symm
  clear hX hRe hsz hE hlt
  refine wp_region_lit ?_
  refine mm_move rfl _ rfl (.int .i64 k) rfl ?_
  refine mm_make rfl _ rfl k rfl rfl rfl rfl _ _ rfl X HX.out rfl rfl ?_
  intro w2 hX2 hb2 hw2
  simp only [Act.put, List.setIfInBounds_toArray, List.set_cons_zero, List.set_cons_succ]
  have hs : RmS w w2 E R X (mmZ k) e := ⟨gb_below (hb1.trans (hb2.mono hb1.size)) _, hR.on hb2, hX2, hE1.on hb2⟩
  clear hX2 hb2 hw2 hb1 hR hE1 HX
  have OKL : Hid (∀ x ∈ (Ey.list e 32 Ey.blk).1, x.length = 32) := Lib.hid (many_all (f := Ey.blk) (G := fun x => x.length = 32) (fun e => blk_len e) _ _)
  have LEN : Hid ((Ey.list e 32 Ey.blk).1.length ≤ 64) := Lib.hid (by show (many Ey.blk _ _).1.length ≤ 64; rw [many_length]; exact Nat.le_trans (count_le e 32) (by omega))
  have C : Hid (Calls Tryd.prog 53 #[.pointer (some ⟨E, 0, none⟩), .int .i64 32, .func (.func 57) #[] #[]] w2 fun r w' => ListPost E w2 24 32 (Ey.list e 32 Ey.blk).1.length (namesC (Ey.list e 32 Ey.blk).1) (Ey.list e 32 Ey.blk).2 r w') := Lib.hid (list_blks E e hok 32 (by omega) _ hs.eye)
  generalize hq : (Ey.list e 32 Ey.blk).1 = ls at *
  have QL := Lib.hid hq
  clear hq
  obtain ⟨e9, he9⟩ : ∃ e9, e9 = (Ey.list e 32 Ey.blk).2 := ⟨_, rfl⟩
  rw [← he9] at C
  have Q9 := Lib.hid he9
  clear he9
  go_wp2_with fail
  refine C.out.mono ?_
  rintro r w30 ⟨sv, rfl, hown, hE2, hg2⟩
  have hXb : X < w2.heap.size := hs.x.lt
  have hRb : R < w2.heap.size := hs.r.lt
  have hEb : E < w2.heap.size := hs.eye.lt
  obtain ⟨sa, sn, sc, rfl⟩ := ownsRow_slice hown
  replace hs : RmS w w30 E R X ⟨k, 0, 0, 0, 0, slZ, z32, slZ⟩ e9 := hs.step hE2 hg2 h1 h2
  have c := hs.x.ns
  have f := hs.x.free 5
  have hX := hs.x.setNs sa sn sc
  replace hown := owns_setCell hown X 5 (.slice sa sn sc) hXb
  replace hs : RmS w (w30.setCell ⟨X, 5, none⟩ (.slice sa sn sc)) E R X ⟨k, 0, 0, 0, 0, ⟨sa, sn, sc⟩, z32, slZ⟩ e9 := hs.put 5 _ hX h3 (Ne.symm h2) h4
  clear C hE2 hg2 hX
  go_upto_region 19 with fail
  generalize World.setCell _ _ _ = v1 at *
  clear c f
  have hr := hs.r
  have hx := hs.x
  have hz0 : (mmA (mmZ 0)).size = 39 := rfl
  have hz : (mmA ⟨k, 0, 0, 0, 0, ⟨sa, sn, sc⟩, z32, slZ⟩).size = 39 := mmA_size (rfl)
  generalize hM : (⟨k, 0, 0, 0, 0, ⟨sa, sn, sc⟩, z32, slZ⟩ : Mm) = M at *
  have HM := Lib.hid hM
  clear hM
  go_wp2_with (first
    | (with_reducible refine mm_load rfl _ rfl X rfl hx hz ?_)
    | (with_reducible refine mm_store rfl _ _ rfl R _ M rfl rfl rfl hz hr hz0 ?_))
  refine bodyPost_ret (v := .agg (mmA M)) (mm_results Tryd.results36 _ R rfl (Has.row hr _) hz) rfl ⟨M, rfl, ?_, (by rw [← HM.out]; exact ⟨fun p hp => (own_new hown p hp (by omega)), fun p hp => (by cases hp)⟩), (by rw [← Q9.out]; exact Has.otherRow hs.eye _ _ (Ne.symm h1)), gb_setRowNew hs.gr R h5 _⟩
  rw [← HM.out]
  have hsn : sn = ls.length := by
    rcases (owns_setRow hown R (mmA M) hRb).2 with ⟨q1, q2⟩ | ⟨g, cap, cur, q1, _⟩
    · cases q1; omega
    · cases q1; rfl
  obtain ⟨a', c', hv, hN⟩ := owns_names (owns_setRow hown R (mmA M) hRb) rfl OKL.out
  obtain ⟨rfl, rfl, rfl⟩ : sa = a' ∧ sn = ls.length ∧ sc = c' := by cases hv; exact ⟨rfl, rfl, rfl⟩
  have hlen := LEN.out
  rw [← HM.out] at hN
  rw [QL.out]
  have := OKL.out
  exact ⟨rfl, rfl, rfl, rfl, rfl, rfl, rfl, by show ls.length ≤ _; omega, hN, rfl, Nat.zero_le _, heads_nil _ _, ⟨this, z32_length, by simp⟩⟩
set_option maxRecDepth 100000 in
set_option maxHeartbeats 1600000 in
theorem rd_3 (k : Int) (E : Nat) (e : Ey) (hok : e.ok) (hk : k = 3) (w : World) (hE : EyeAt w E e) :
    Calls Tryd.prog 36 #[.pointer (some ⟨E, 0, none⟩), .int .i64 k] w fun r w' => MsgPost E w ⟨k, ((e.get 4).1 : Nat), 0, 0, 0, ((e.get 4).2.list 32 Ey.name).1, ((e.get 4).2.list 32 Ey.name).2.name.1, []⟩ ((e.get 4).2.list 32 Ey.name).2.name.2 r w' := by
  have t1 : (k == 1) = false := by rw [hk]; rfl
  have t3 : (k == 3) = true := by rw [hk]; rfl
  clear hk
  have hlt := hE.lt
  go_enter Tryd.func36, Tryd.ntmps36
  go_upto_region 1 with fail
  have hR := mm_newz w
  have hb1 : Below w.heap.size w (w.alloc (.cells (mmA (mmZ 0)) 27)) := (Below.refl _ _).alloc (Nat.le_refl _) _
  have hE1 : EyeAt (w.alloc (.cells (mmA (mmZ 0)) 27)) E e := hE.on hb1
  rw [mmZ_lit 0] at hb1 hE1
  obtain ⟨R, hRe⟩ : ∃ R, R = w.heap.size := ⟨_, rfl⟩
  have hsz : (w.alloc (.cells (mmA (mmZ 0)) 27)).heap.size = w.heap.size + 1 := by simp only [World.size_alloc]
  rw [mmZ_lit 0] at hsz
  rw [← hRe] at hR ⊢
  generalize World.alloc _ _ = w1 at *
  obtain ⟨X, hX⟩ : ∃ X, X = w1.heap.size := ⟨_, rfl⟩
  have h1 : R ≠ E := by omega
  have h2 : X ≠ E := by omega
  have h3 : R ≠ X := by omega
  have h4 : w.heap.size ≤ X := by omega
  have h5 : w.heap.size ≤ R := by omega
  have HX := Lib.hid hX.symm
  clear hX hRe hsz hE hlt
  refine wp_region_lit ?_
  refine mm_move rfl _ rfl (.int .i64 k) rfl ?_
  refine mm_make rfl _ rfl k rfl rfl rfl rfl _ _ rfl X HX.out rfl rfl ?_
  intro w2 hX2 hb2 hw2
  simp only [Act.put, List.setIfInBounds_toArray, List.set_cons_zero, List.set_cons_succ]
  have hs : RmS w w2 E R X (mmZ k) e := ⟨gb_below (hb1.trans (hb2.mono hb1.size)) _, hR.on hb2, hX2, hE1.on hb2⟩
  clear hX2 hb2 hw2 hb1 hR hE1 HX
  have C := Lib.hid (get_at E e 4 _ hs.eye)
  generalize hp1 : (Ey.get e 4).1 = n1 at *
  have P1 := Lib.hid hp1
  clear hp1
  go_wp2_with fail
  refine C.out.mono ?_
  rintro r w10 ⟨rfl, hE2, hg2⟩
  replace hs : RmS w w10 E R X (mmZ k) (Ey.get e 4).2 := hs.step hE2 hg2 h1 h2
  have c := hs.x.ver
  have f := hs.x.free 1
  have hX := hs.x.setVer (n1 : Nat)
  replace hs : RmS w (w10.setCell ⟨X, 1, none⟩ (.int .i64 (n1 : Nat))) E R X ⟨k, (n1 : Nat), 0, 0, 0, slZ, z32, slZ⟩ (Ey.get e 4).2 := hs.put 1 _ hX h3 (Ne.symm h2) h4
  clear C hE2 hg2 hX
  go_upto_region 10 with fail
  generalize World.setCell _ _ _ = v1 at *
  clear c f
  have OKL : Hid (∀ x ∈ (Ey.list (Ey.get e 4).2 32 Ey.name).1, x.length = 32) := Lib.hid (many_all (f := Ey.name) (G := fun x => x.length = 32) (fun e => name_len e) _ _)
  have LEN : Hid ((Ey.list (Ey.get e 4).2 32 Ey.name).1.length ≤ 64) := Lib.hid (by show (many Ey.name _ _).1.length ≤ 64; rw [many_length]; exact Nat.le_trans (count_le (Ey.get e 4).2 32) (by omega))
  have C : Hid (Calls Tryd.prog 53 #[.pointer (some ⟨E, 0, none⟩), .int .i64 32, .func (.func 54) #[] #[]] v1 fun r w' => ListPost E v1 24 32 (Ey.list (Ey.get e 4).2 32 Ey.name).1.length (namesC (Ey.list (Ey.get e 4).2 32 Ey.name).1) (Ey.list (Ey.get e 4).2 32 Ey.name).2 r w') := Lib.hid (list_names E (Ey.get e 4).2 (ok_get hok 4) 32 (by omega) _ hs.eye)
  generalize hq : (Ey.list (Ey.get e 4).2 32 Ey.name).1 = ls at *
  have QL := Lib.hid hq
  clear hq
  obtain ⟨e9, he9⟩ : ∃ e9, e9 = (Ey.list (Ey.get e 4).2 32 Ey.name).2 := ⟨_, rfl⟩
  rw [← he9] at C
  have Q9 := Lib.hid he9
  clear he9
  go_wp2_with fail
  refine C.out.mono ?_
  rintro r w30 ⟨sv, rfl, hown, hE2, hg2⟩
  have hXb : X < v1.heap.size := hs.x.lt
  have hRb : R < v1.heap.size := hs.r.lt
  have hEb : E < v1.heap.size := hs.eye.lt
  obtain ⟨sa, sn, sc, rfl⟩ := ownsRow_slice hown
  replace hs : RmS w w30 E R X ⟨k, (n1 : Nat), 0, 0, 0, slZ, z32, slZ⟩ e9 := hs.step hE2 hg2 h1 h2
  have c := hs.x.ns
  have f := hs.x.free 5
  have hX := hs.x.setNs sa sn sc
  replace hown := owns_setCell hown X 5 (.slice sa sn sc) hXb
  replace hs : RmS w (w30.setCell ⟨X, 5, none⟩ (.slice sa sn sc)) E R X ⟨k, (n1 : Nat), 0, 0, 0, ⟨sa, sn, sc⟩, z32, slZ⟩ e9 := hs.put 5 _ hX h3 (Ne.symm h2) h4
  clear C hE2 hg2 hX
  go_upto_region 11 with fail
  generalize hv2 : World.setCell _ _ _ = v2 at *
  clear c f hv2
  have ok : (⟨k, (n1 : Nat), 0, 0, 0, ⟨sa, sn, sc⟩, z32, slZ⟩ : Mm).ok := rfl
  have L2 : Hid ((Ey.name e9).1.length = 32) := Lib.hid (name_len _)
  have C := Lib.hid (name_at E e9 _ hs.eye)
  have KT := Lib.hid (fun (w' : World) (h : MmAt w' X ⟨k, (n1 : Nat), 0, 0, 0, ⟨sa, sn, sc⟩, z32, slZ⟩) => h.there ok 6 32 (by omega))
  generalize hp2 : (Ey.name e9).1 = p2 at *
  have P2 := Lib.hid hp2
  clear hp2
  go_wp2_with fail
  refine C.out.mono ?_
  rintro r w40 ⟨rfl, hE2, hg2⟩
  replace hown := owns_eye hown hg2 hEb
  replace hs : RmS w w40 E R X ⟨k, (n1 : Nat), 0, 0, 0, ⟨sa, sn, sc⟩, z32, slZ⟩ (Ey.name e9).2 := hs.step hE2 hg2 h1 h2
  have hX := hs.x.setStop ok L2.out
  replace hown := owns_setCells hown X 6 (Lib.byteCells p2) hXb
  go_upto_region 19 with (with_reducible refine hl_store_mid rfl _ _ rfl X 6 p2 rfl rfl L2.out (KT.out _ hs.x) ?_)
  replace hs : RmS w (w40.setCells X 6 (Lib.byteCells p2)) E R X ⟨k, (n1 : Nat), 0, 0, 0, ⟨sa, sn, sc⟩, p2, slZ⟩ (Ey.name e9).2 := hs.putName 6 _ hX h3 (Ne.symm h2) h4
  generalize World.setCells _ _ _ _ = v3 at *
  clear C hE2 hg2 hX KT ok
  have hr := hs.r
  have hx := hs.x
  have hz0 : (mmA (mmZ 0)).size = 39 := rfl
  have hz : (mmA ⟨k, (n1 : Nat), 0, 0, 0, ⟨sa, sn, sc⟩, p2, slZ⟩).size = 39 := mmA_size (L2.out)
  generalize hM : (⟨k, (n1 : Nat), 0, 0, 0, ⟨sa, sn, sc⟩, p2, slZ⟩ : Mm) = M at *
  have HM := Lib.hid hM
  clear hM
  go_wp2_with (first
    | (with_reducible refine mm_load rfl _ rfl X rfl hx hz ?_)
    | (with_reducible refine mm_store rfl _ _ rfl R _ M rfl rfl rfl hz hr hz0 ?_))
  refine bodyPost_ret (v := .agg (mmA M)) (mm_results Tryd.results36 _ R rfl (Has.row hr _) hz) rfl ⟨M, rfl, ?_, (by rw [← HM.out]; exact ⟨fun p hp => (own_new hown p hp (by omega)), fun p hp => (by cases hp)⟩), (by rw [← Q9.out]; exact Has.otherRow hs.eye _ _ (Ne.symm h1)), gb_setRowNew hs.gr R h5 _⟩
  rw [← HM.out]
  have hsn : sn = ls.length := by
    rcases (owns_setRow hown R (mmA M) hRb).2 with ⟨q1, q2⟩ | ⟨g, cap, cur, q1, _⟩
    · cases q1; omega
    · cases q1; rfl
  obtain ⟨a', c', hv, hN⟩ := owns_names (owns_setRow hown R (mmA M) hRb) rfl OKL.out
  obtain ⟨rfl, rfl, rfl⟩ : sa = a' ∧ sn = ls.length ∧ sc = c' := by cases hv; exact ⟨rfl, rfl, rfl⟩
  have hlen := LEN.out
  have h32 := L2.out
  rw [← HM.out] at hN
  rw [P1.out, ← Q9.out, P2.out, QL.out]
  have := OKL.out
  exact ⟨rfl, rfl, rfl, rfl, rfl, rfl, rfl, by show ls.length ≤ _; omega, hN, rfl, Nat.zero_le _, heads_nil _ _, ⟨this, h32, by simp⟩⟩
/-- the message of a kind is read from what an eye has left -/
theorem read8_at (k : Int) (E : Nat) (e : Ey) (hok : e.ok) (w : World) (hE : EyeAt w E e) : Calls Tryd.prog 36 #[.pointer (some ⟨E, 0, none⟩), .int .i64 k] w fun r w' => MsgPost E w (e.msg k).1 (e.msg k).2 r w' := by
  unfold Ey.msg
  by_cases h1 : k = 1
  · simp only [if_pos h1]; exact rd_1 k E e h1 w hE
  by_cases h3 : k = 3
  · simp only [if_neg h1, if_pos h3]; exact rd_3 k E e hok h3 w hE
  by_cases h4 : k = 4
  · simp only [if_neg h1, if_neg h3, if_pos h4]; exact rd_4 k E e hok h4 w hE
  by_cases h5 : k = 5
  · simp only [if_neg h1, if_neg h3, if_neg h4, if_pos h5]; exact rd_5 k E e hok h5 w hE
  by_cases h6 : k = 6
  · simp only [if_neg h1, if_neg h3, if_neg h4, if_neg h5, if_pos (show k = 6 ∨ k = 7 from .inl h6)]; exact rd_6 k E e h6 w hE
  by_cases h7 : k = 7
  · simp only [if_neg h1, if_neg h3, if_neg h4, if_neg h5, if_pos (show k = 6 ∨ k = 7 from .inr h7)]; exact rd_7 k E e h7 w hE
  simp only [if_neg h1, if_neg h3, if_neg h4, if_neg h5, if_neg (show ¬ (k = 6 ∨ k = 7) from fun h => h.elim h6 h7)]
  exact rd_0 k E e h1 h3 h4 h5 h6 h7 w hE
end Go.Proofs.YtmpllagaeoolaaaDoor
/-
  Operations of regions that draw their order, one by one.
-/
namespace Go.Proofs.YtmpllagaeoolaaaDoor
open Go.RowKit Mem Sc Rg2
section
variable {ρ : Operand → Value} {o : Oper} {w w' : World}
theorem ex_move {x : Operand} (ho : o.op = .move x) : (execOp ρ o).run Tryd.prog w = .ok (.value (ρ x)) w := by
  unfold execOp; simp only [ho]; rfl
theorem ex_assign {x : Operand} (ho : o.op = .assign x) : (execOp ρ o).run Tryd.prog w = .ok (.value (ρ x)) w := by
  unfold execOp; simp only [ho]; rfl
theorem ex_len_names {x : Operand} {a : Option Addr} {n c : Nat} (ho : o.op = .call { callee := .builtin .len, args := #[x], argTypes := #[22] }) (hx : ρ x = .slice a n c) : (execOp ρ o).run Tryd.prog w = .ok (.value (.int .i64 (n : Nat))) w := by
  unfold execOp
  simp only [ho]
  go_simp
theorem ex_leq {x y : Operand} {a b : Int} (ho : o.op = .binOp .leq 3 x y 3) (hx : ρ x = .int .i64 a) (hy : ρ y = .int .i64 b) : (execOp ρ o).run Tryd.prog w = .ok (.value (.bool (decide (a ≤ b)))) w := by
  refine ex_bin ho (by decide) (by decide) ?_
  rw [hx, hy]
  go_simp
theorem ex_ints2 {x y : Operand} {a b : Int} (ho : o.op = .buildSlice 80 2 #[(0, x), (1, y)]) (hx : ρ x = .int .i64 a) (hy : ρ y = .int .i64 b) : (execOp ρ o).run Tryd.prog w = .ok (.value (.slice (some ⟨w.heap.size, 0, none⟩) 2 2)) (w.alloc (.cells (two a b) 3)) := by
  refine ex_buildSlice ho ?_
  rw [show (#[(0, x), (1, y)] : Array (Nat × Operand)).map (fun (i, x) => (i, ρ x)) = #[(0, .int .i64 a), (1, .int .i64 b)] by simp [hx, hy]]
  kernel_rfl
theorem field2 (w : World) (g : Nat) : (Instr.fieldAt 27 (.pointer (some ⟨g, 0, none⟩)) 2).run Tryd.prog w = .ok (.pointer (some ⟨g, 2, none⟩)) w := by kernel_rfl
theorem field3 (w : World) (g : Nat) : (Instr.fieldAt 27 (.pointer (some ⟨g, 0, none⟩)) 3).run Tryd.prog w = .ok (.pointer (some ⟨g, 3, none⟩)) w := by kernel_rfl
theorem field4 (w : World) (g : Nat) : (Instr.fieldAt 27 (.pointer (some ⟨g, 0, none⟩)) 4).run Tryd.prog w = .ok (.pointer (some ⟨g, 4, none⟩)) w := by kernel_rfl
theorem field7 (w : World) (g : Nat) : (Instr.fieldAt 27 (.pointer (some ⟨g, 0, none⟩)) 7).run Tryd.prog w = .ok (.pointer (some ⟨g, 38, none⟩)) w := by kernel_rfl
theorem load_heads {p : Addr} {a : Option Addr} {n c : Nat} (h : w.cell? p = some (.slice a n c)) : (loadVar 25 p).run Tryd.prog w = .ok (.slice a n c) w := by
  go_simp
end
section
variable {ops : Array Oper} {o : Oper} {a : Act} {w w' : World} {Q : Exit → Act → World → Prop} {C : World → Prop} {S : World → World → Prop} {R : Value → World → Prop} {J : Act → World → Prop} {v : Value} {j : Nat} {c : Bool}
/-- an operation that waits for a test: done, if the test came out true; else it leaves nothing -/
theorem duty_if (hg : o.guard = some (j, true)) (hy : yielded ops a.tmps j = some c)
    (ht : c = true → Region.wanted o (yielded ops a.tmps) = true → if Region.wanted o (yielded ops a.tmps) = true then o.wp Tryd.prog a w (fun a' w' => C w' ∧ S w w' ∧ ∃ v, a' = a.put o.dst v ∧ R v w' ∧ J a' w') Q else R undef w ∧ J (a.put o.dst undef) w)
    (hf : c = false → R undef w ∧ J (a.put o.dst undef) w) :
    if Region.wanted o (yielded ops a.tmps) = true then o.wp Tryd.prog a w (fun a' w' => C w' ∧ S w w' ∧ ∃ v, a' = a.put o.dst v ∧ R v w' ∧ J a' w') Q else R undef w ∧ J (a.put o.dst undef) w := by
  cases c
  · have hw : Region.wanted o (yielded ops a.tmps) = false := by
      unfold Region.wanted
      rw [hg]
      simp [hy]
    rw [if_neg (by rw [hw]; decide)]
    exact hf rfl
  · exact ht rfl (wanted_of hg hy)
end
theorem pick_is (c x : Bool) (v : Value) (h : c = true → v = .bool x) : (if c = true then v else .bool false) = .bool (c && x) := by
  cases c
  · rfl
  · rw [if_pos rfl, h rfl, Bool.true_and]
/-- what is new stays -/
def Stay (B : Nat) (w w' : World) : Prop := ∀ b cs t, B ≤ b → Has w b cs t → Has w' b cs t
end Go.Proofs.YtmpllagaeoolaaaDoor
/-
  speech: Good.
-/
namespace Go.Proofs.YtmpllagaeoolaaaDoor
open Go.RowKit Mem Sc Rg2
set_option maxRecDepth 100000 in
set_option maxHeartbeats 4000000 in
theorem good8_none (m : Mm) (w : World) (hT : TabS w) (hw : wordK m.kind = E0) :
    Calls Tryd.prog 13 #[.agg (mmA m)] w fun e w' => e = .returned (.bool false) ∧ Below w.heap.size w w' := by
  have hH := mm_new w m
  have hB : Below w.heap.size w (w.alloc (.cells (mmA m) 27)) := (Below.refl _ _).alloc (Nat.le_refl _) _
  have hT1 := hT.below hB
  have KW := Lib.hid (word_at m.kind)
  rw [hw, show E0 = ⟨#[]⟩ from rfl] at KW
  clear hw hT
  go_enter Tryd.func13, Tryd.ntmps13
  go_upto_region 1 with fail
  obtain ⟨P, hP⟩ : ∃ P, P = w.heap.size := ⟨_, rfl⟩
  rw [← hP] at hH ⊢
  clear hP
  generalize World.alloc _ _ = w1 at *
  have c0 := hH.kind
  go_wp2_with fail
  refine (KW.out _ hT1).mono ?_
  rintro r w2 ⟨rfl, rfl⟩
  go_wp2_with fail
  go_ret
  exact ⟨rfl, hB⟩
def IsTwo (B0 : Nat) (x y : Int) (v : Value) (w : World) : Prop := ∃ b', B0 ≤ b' ∧ v = .slice (some ⟨b', 0, none⟩) 2 2 ∧ Has w b' (two x y) 3
def gTab (B : Mm) (P B0 : Nat) (most : Nat) (b1 b2 b3 b4 : Bool) : Nat → Value → World → Prop
  | 0, v, _ => v = .pointer (some ⟨P, 1, none⟩)
  | 1, v, _ => v = .int .i64 B.ver
  | 2, v, _ => v = .pointer (some ⟨P, 3, none⟩)
  | 3, v, _ => v = .int .i64 B.height
  | 4, v, w => IsTwo B0 B.ver B.height v w
  | 5, v, _ => v = .bool b1
  | 6, v, _ => v = .bool b1
  | 7, v, _ => b1 = true → v = .pointer (some ⟨P, 2, none⟩)
  | 8, v, _ => b1 = true → v = .int .i64 B.serv
  | 9, v, _ => b1 = true → v = .pointer (some ⟨P, 4, none⟩)
  | 10, v, _ => b1 = true → v = .int .i64 B.nb
  | 11, v, w => b1 = true → IsTwo B0 B.serv B.nb v w
  | 12, v, _ => b1 = true → v = .bool b2
  | 13, v, _ => v = .bool (b1 && b2)
  | 14, v, _ => v = .bool (b1 && b2)
  | 15, v, _ => (b1 && b2) = true → v = .pointer (some ⟨P, 5, none⟩)
  | 16, v, _ => (b1 && b2) = true → v = .slice B.ns.a B.ns.n B.ns.c
  | 17, v, _ => (b1 && b2) = true → v = .int .i64 (B.ns.n : Nat)
  | 18, v, _ => (b1 && b2) = true → v = .pointer (some ⟨P, 0, none⟩)
  | 19, v, _ => (b1 && b2) = true → v = .int .i64 B.kind
  | 20, v, _ => (b1 && b2) = true → v = .int .i64 (most : Nat)
  | 21, v, _ => (b1 && b2) = true → v = .bool b3
  | 22, v, _ => v = .bool (b1 && b2 && b3)
  | 23, v, _ => v = .bool (b1 && b2 && b3)
  | 24, v, _ => (b1 && b2 && b3) = true → v = .pointer (some ⟨P, 38, none⟩)
  | 25, v, _ => (b1 && b2 && b3) = true → v = .slice B.hs.a B.hs.n B.hs.c
  | 26, v, _ => (b1 && b2 && b3) = true → v = .bool b4
  | 27, v, _ => v = .bool (b1 && b2 && b3 && b4)
  | 28, v, _ => v = .bool (b1 && b2 && b3 && b4)
  | _, _, _ => True
theorem IsTwo.stay {B0 : Nat} {x y : Int} {v : Value} {w w' : World} (h : IsTwo B0 x y v w) (hs : Stay B0 w w') : IsTwo B0 x y v w' := by
  obtain ⟨b', h1, h2, h3⟩ := h
  exact ⟨b', h1, h2, hs _ _ _ h1 h3⟩
theorem gTab_stay (B : Mm) (P B0 most : Nat) (b1 b2 b3 b4 : Bool) (i : Nat) (hi : i < 29) (v : Value) (w w' : World) (hs : Stay B0 w w') (h : gTab B P B0 most b1 b2 b3 b4 i v w) : gTab B P B0 most b1 b2 b3 b4 i v w' := by
  obtain rfl | rfl | rfl | rfl | rfl | rfl | rfl | rfl | rfl | rfl | rfl | rfl | rfl | rfl | rfl | rfl | rfl | rfl | rfl | rfl | rfl | rfl | rfl | rfl | rfl | rfl | rfl | rfl | rfl : i = 0 ∨ i = 1 ∨ i = 2 ∨ i = 3 ∨ i = 4 ∨ i = 5 ∨ i = 6 ∨ i = 7 ∨ i = 8 ∨ i = 9 ∨ i = 10 ∨ i = 11 ∨ i = 12 ∨ i = 13 ∨ i = 14 ∨ i = 15 ∨ i = 16 ∨ i = 17 ∨ i = 18 ∨ i = 19 ∨ i = 20 ∨ i = 21 ∨ i = 22 ∨ i = 23 ∨ i = 24 ∨ i = 25 ∨ i = 26 ∨ i = 27 ∨ i = 28 := by omega
  all_goals first | exact h | exact IsTwo.stay h hs | exact fun hb => IsTwo.stay (h hb) hs
theorem gTab_stays (B : Mm) (P B0 most : Nat) (b1 b2 b3 b4 : Bool) (i : Nat) (v : Value) (w w' : World) (hs : Stay B0 w w') (h : gTab B P B0 most b1 b2 b3 b4 i v w) : gTab B P B0 most b1 b2 b3 b4 i v w' := by
  by_cases hi : i < 29
  · exact gTab_stay B P B0 most b1 b2 b3 b4 i hi v w w' hs h
  · obtain ⟨k, rfl⟩ := Nat.exists_eq_add_of_le (show 29 ≤ i by omega)
    rw [Nat.add_comm]
    trivial
set_option maxRecDepth 100000 in
set_option maxHeartbeats 4000000 in
theorem good8_yes (m : Mm) (ho : m.ok) (w : World) (hT : TabS w) (hw : wordK m.kind ≠ E0) (B : Mm) (hBe : m.bare = B) (b1 b2 b3 b4 : Bool)
    (h1 : decide (in4 B.ver ∧ in4 B.height) = b1) (h2 : decide (in7 B.serv ∧ in7 B.nb) = b2) (h3 : decide ((B.ns.n : Int) ≤ ((mostOf B.kind : Nat) : Int)) = b3)
    (hs : List Hd) (hn : B.hs.n = hs.length) (hl : B.hs.n ≤ 4611686018427387904) (hA : HeadersAt w B.hs.a hs) (h4 : decide (headsG hs) = b4) :
    Calls Tryd.prog 13 #[.agg (mmA m)] w fun e w' => e = .returned (.bool (b1 && b2 && b3 && b4)) ∧ Below w.heap.size w w' := by
  have hH := mm_new w m
  have hB : Below w.heap.size w (w.alloc (.cells (mmA m) 27)) := (Below.refl _ _).alloc (Nat.le_refl _) _
  have hT1 := hT.below hB
  have KW := Lib.hid (word_at m.kind)
  have hz := mmA_size ho
  have he : (wordK m.kind).toList.isEmpty = false := isEmpty_no hw
  have KB := Lib.hid (bare_at m ho)
  have hzb := mmA_size (mbare_ok ho)
  have hob := mbare_ok ho
  rw [hBe] at KB hzb hob
  have KH := Lib.hid (fun w hA => heads_at B.hs.a hs B.hs.n B.hs.c hn hl b4 h4 w hA)
  have HA := Lib.hid hA
  have KM := Lib.hid (most_at B.kind)
  have K4 := Lib.hid (fun b w hb => room4_at b B.ver B.height b1 h1 w hb)
  have K7 := Lib.hid (fun b w hb => room7_at b B.serv B.nb b2 h2 w hb)
  clear hA hn hl h4 h1 h2 hw hT hBe
  generalize wordK m.kind = word at *
  generalize mostOf B.kind = most at *
  go_enter Tryd.func13, Tryd.ntmps13
  go_upto_region 1 with fail
  obtain ⟨P, hP⟩ : ∃ P, P = w.heap.size := ⟨_, rfl⟩
  rw [← hP] at hH ⊢
  have hPw : w.heap.size ≤ P := by omega
  clear hP
  generalize World.alloc _ _ = w1 at *
  have c0 := hH.kind
  have H3 := Lib.hid h3
  clear h3
  go_wp2_with fail
  refine (KW.out _ hT1).mono ?_
  rintro r w2 ⟨rfl, rfl⟩
  go_wp2_with (with_reducible refine mm_load rfl _ rfl P rfl hH hz ?_)
  refine (KB.out _).mono ?_
  rintro r w2 ⟨rfl, hb2⟩
  replace hH := hH.on hb2
  replace hB := hB.trans (hb2.mono hB.size)
  clear hb2 KB KW c0 hT1
  go_upto_region 4 with (with_reducible refine mm_store rfl _ _ rfl P _ B rfl rfl rfl hzb hH hz ?_)
  have hH3 : MmAt (w2.setRow P (mmA B)) P B := Has.row hH _
  have hB3 : Below w.heap.size w (w2.setRow P (mmA B)) := below_setRow hB hPw _
  clear hH hB hz hzb
  generalize World.setRow _ _ _ = w3 at *
  obtain ⟨B0, hB0⟩ : ∃ B0, B0 = w3.heap.size := ⟨_, rfl⟩
  have hPB : P < B0 := by rw [hB0]; exact hH3.lt
  have hwB : w.heap.size ≤ B0 := by rw [hB0]; exact hB3.size
  have hB0' : B0 ≤ w3.heap.size := by omega
  clear hB0
  refine Rg2.wp_region_inv (by kernel_rfl) (fun w' => MmAt w' P B ∧ Below w.heap.size w w' ∧ B0 ≤ w'.heap.size) (fun i v w' => gTab B P B0 most b1 b2 b3 b4 i v w') (fun _ _ _ => True) (Stay B0) (fun _ _ _ _ _ _ h => h) (fun i v w w' _ hs h => gTab_stays _ _ _ _ _ _ _ _ i v w w' hs h) (by kernel_rfl) ⟨Has.drew hH3, hB3.drew, hB0'⟩ (fun _ _ => trivial) ?_ ?_
  · intro i o listed a wx ho' hn hdep hinv
    obtain ⟨hM, hBx, hSx⟩ := hinv.c
    have hC := hinv.c
    have hi : i < 29 := (Array.getElem?_eq_some_iff.1 ho').1
    obtain rfl | rfl | rfl | rfl | rfl | rfl | rfl | rfl | rfl | rfl | rfl | rfl | rfl | rfl | rfl | rfl | rfl | rfl | rfl | rfl | rfl | rfl | rfl | rfl | rfl | rfl | rfl | rfl | rfl : i = 0 ∨ i = 1 ∨ i = 2 ∨ i = 3 ∨ i = 4 ∨ i = 5 ∨ i = 6 ∨ i = 7 ∨ i = 8 ∨ i = 9 ∨ i = 10 ∨ i = 11 ∨ i = 12 ∨ i = 13 ∨ i = 14 ∨ i = 15 ∨ i = 16 ∨ i = 17 ∨ i = 18 ∨ i = 19 ∨ i = 20 ∨ i = 21 ∨ i = 22 ∨ i = 23 ∨ i = 24 ∨ i = 25 ∨ i = 26 ∨ i = 27 ∨ i = 28 := by omega
    all_goals obtain rfl := Option.some.inj ho'
    · exact duty_value (C := fun w' => MmAt w' P B ∧ Below w.heap.size w w' ∧ B0 ≤ w'.heap.size) (S := Stay B0) (R := fun v w' => gTab B P B0 most b1 b2 b3 b4 0 v w') (J := fun _ _ => True) (fun _ _ _ _ _ _ h => h) hC (wanted_free rfl) (ex_field rfl (hinv.old' 1 (by kernel_rfl)) (field1 _ _)) (rfl) trivial
    · exact duty_value (C := fun w' => MmAt w' P B ∧ Below w.heap.size w w' ∧ B0 ≤ w'.heap.size) (S := Stay B0) (R := fun v w' => gTab B P B0 most b1 b2 b3 b4 1 v w') (J := fun _ _ => True) (fun _ _ _ _ _ _ h => h) hC (wanted_free rfl) (ex_load_cell rfl (hinv.got 0 _ 9 rfl (hdep ⟨0, .data⟩ (by simp) rfl) rfl) (load_int hM.ver)) (rfl) trivial
    · exact duty_value (C := fun w' => MmAt w' P B ∧ Below w.heap.size w w' ∧ B0 ≤ w'.heap.size) (S := Stay B0) (R := fun v w' => gTab B P B0 most b1 b2 b3 b4 2 v w') (J := fun _ _ => True) (fun _ _ _ _ _ _ h => h) hC (wanted_free rfl) (ex_field rfl (hinv.old' 1 (by kernel_rfl)) (field3 _ _)) (rfl) trivial
    · exact duty_value (C := fun w' => MmAt w' P B ∧ Below w.heap.size w w' ∧ B0 ≤ w'.heap.size) (S := Stay B0) (R := fun v w' => gTab B P B0 most b1 b2 b3 b4 3 v w') (J := fun _ _ => True) (fun _ _ _ _ _ _ h => h) hC (wanted_free rfl) (ex_load_cell rfl (hinv.got 2 _ 11 rfl (hdep ⟨2, .data⟩ (by simp) rfl) rfl) (load_int hM.height)) (rfl) trivial
    · have hb0 : Below wx.heap.size wx (wx.alloc (.cells (two B.ver B.height) 3)) := (Below.refl _ _).alloc (Nat.le_refl _) _
      exact duty_made (C := fun w' => MmAt w' P B ∧ Below w.heap.size w w' ∧ B0 ≤ w'.heap.size) (S := Stay B0) (R := fun v w' => gTab B P B0 most b1 b2 b3 b4 4 v w') (J := fun _ _ => True) (wanted_free rfl) (ex_ints2 rfl (hinv.got 1 _ 10 rfl (hdep ⟨1, .data⟩ (by simp) rfl) rfl) (hinv.got 3 _ 12 rfl (hdep ⟨3, .data⟩ (by simp) rfl) rfl)) ⟨hM.on hb0, hBx.trans (hb0.mono hBx.size), Nat.le_trans hSx hb0.size⟩ (fun _ _ _ _ h => below_has hb0 h (Has.lt h)) (⟨wx.heap.size, hSx, rfl, Has.new _ _⟩) trivial
    · obtain ⟨b', hb1, e13, hb3⟩ : IsTwo B0 B.ver B.height (a.eval (.tmp 13)) wx := (hinv.got 4 _ 13 rfl (hdep ⟨4, .data⟩ (by simp) rfl) rfl)
      exact duty_call (C := fun w' => MmAt w' P B ∧ Below w.heap.size w w' ∧ B0 ≤ w'.heap.size) (S := Stay B0) (R := fun v w' => gTab B P B0 most b1 b2 b3 b4 5 v w') (J := fun _ _ => True) (wanted_free rfl) (f := 28) (args := #[.int .i64 4, a.eval (.tmp 13)]) (by kernel_rfl) (by rw [e13]; exact (K4.out b' wx hb3).mono (fun e w' ⟨h1, h2⟩ => ⟨h1, by subst h2; exact Below.refl _ _⟩)) (fun w' hb => ⟨⟨hM.on hb, hBx.trans (hb.mono hBx.size), Nat.le_trans hSx hb.size⟩, fun _ _ _ _ h => below_has hb h (Has.lt h), rfl, trivial⟩)
    · exact duty_value (C := fun w' => MmAt w' P B ∧ Below w.heap.size w w' ∧ B0 ≤ w'.heap.size) (S := Stay B0) (R := fun v w' => gTab B P B0 most b1 b2 b3 b4 6 v w') (J := fun _ _ => True) (fun _ _ _ _ _ _ h => h) hC (wanted_free rfl) (ex_move rfl) (((hinv.got 5 _ 14 rfl (hdep ⟨5, .data⟩ (by simp) rfl) rfl) : a.eval (.tmp 14) = _)) trivial
    · refine duty_if (C := fun w' => MmAt w' P B ∧ Below w.heap.size w w' ∧ B0 ≤ w'.heap.size) (S := Stay B0) (R := fun v w' => gTab B P B0 most b1 b2 b3 b4 7 v w') (J := fun _ _ => True) (c := b1) (j := 6) rfl (yielded_of (o := _) (d := 15) rfl rfl (hinv.got 6 _ 15 rfl (hdep ⟨6, .guard⟩ (by simp) rfl) rfl)) (fun hc hwt => ?_) (fun hc => ⟨fun h => (by rw [hc] at h; cases h), trivial⟩)
      exact duty_value (C := fun w' => MmAt w' P B ∧ Below w.heap.size w w' ∧ B0 ≤ w'.heap.size) (S := Stay B0) (R := fun v w' => gTab B P B0 most b1 b2 b3 b4 7 v w') (J := fun _ _ => True) (fun _ _ _ _ _ _ h => h) hC hwt (ex_field rfl (hinv.old' 1 (by kernel_rfl)) (field2 _ _)) (fun _ => rfl) trivial
    · refine duty_if (C := fun w' => MmAt w' P B ∧ Below w.heap.size w w' ∧ B0 ≤ w'.heap.size) (S := Stay B0) (R := fun v w' => gTab B P B0 most b1 b2 b3 b4 8 v w') (J := fun _ _ => True) (c := b1) (j := 6) rfl (yielded_of (o := _) (d := 15) rfl rfl (hinv.got 6 _ 15 rfl (hdep ⟨6, .guard⟩ (by simp) rfl) rfl)) (fun hc hwt => ?_) (fun hc => ⟨fun h => (by rw [hc] at h; cases h), trivial⟩)
      exact duty_value (C := fun w' => MmAt w' P B ∧ Below w.heap.size w w' ∧ B0 ≤ w'.heap.size) (S := Stay B0) (R := fun v w' => gTab B P B0 most b1 b2 b3 b4 8 v w') (J := fun _ _ => True) (fun _ _ _ _ _ _ h => h) hC hwt (ex_load_cell rfl (hinv.got 7 _ 16 rfl (hdep ⟨7, .data⟩ (by simp) rfl) rfl hc) (load_int hM.serv)) (fun _ => rfl) trivial
    · refine duty_if (C := fun w' => MmAt w' P B ∧ Below w.heap.size w w' ∧ B0 ≤ w'.heap.size) (S := Stay B0) (R := fun v w' => gTab B P B0 most b1 b2 b3 b4 9 v w') (J := fun _ _ => True) (c := b1) (j := 6) rfl (yielded_of (o := _) (d := 15) rfl rfl (hinv.got 6 _ 15 rfl (hdep ⟨6, .guard⟩ (by simp) rfl) rfl)) (fun hc hwt => ?_) (fun hc => ⟨fun h => (by rw [hc] at h; cases h), trivial⟩)
      exact duty_value (C := fun w' => MmAt w' P B ∧ Below w.heap.size w w' ∧ B0 ≤ w'.heap.size) (S := Stay B0) (R := fun v w' => gTab B P B0 most b1 b2 b3 b4 9 v w') (J := fun _ _ => True) (fun _ _ _ _ _ _ h => h) hC hwt (ex_field rfl (hinv.old' 1 (by kernel_rfl)) (field4 _ _)) (fun _ => rfl) trivial
    · refine duty_if (C := fun w' => MmAt w' P B ∧ Below w.heap.size w w' ∧ B0 ≤ w'.heap.size) (S := Stay B0) (R := fun v w' => gTab B P B0 most b1 b2 b3 b4 10 v w') (J := fun _ _ => True) (c := b1) (j := 6) rfl (yielded_of (o := _) (d := 15) rfl rfl (hinv.got 6 _ 15 rfl (hdep ⟨6, .guard⟩ (by simp) rfl) rfl)) (fun hc hwt => ?_) (fun hc => ⟨fun h => (by rw [hc] at h; cases h), trivial⟩)
      exact duty_value (C := fun w' => MmAt w' P B ∧ Below w.heap.size w w' ∧ B0 ≤ w'.heap.size) (S := Stay B0) (R := fun v w' => gTab B P B0 most b1 b2 b3 b4 10 v w') (J := fun _ _ => True) (fun _ _ _ _ _ _ h => h) hC hwt (ex_load_cell rfl (hinv.got 9 _ 18 rfl (hdep ⟨9, .data⟩ (by simp) rfl) rfl hc) (load_int hM.nb)) (fun _ => rfl) trivial
    · refine duty_if (C := fun w' => MmAt w' P B ∧ Below w.heap.size w w' ∧ B0 ≤ w'.heap.size) (S := Stay B0) (R := fun v w' => gTab B P B0 most b1 b2 b3 b4 11 v w') (J := fun _ _ => True) (c := b1) (j := 6) rfl (yielded_of (o := _) (d := 15) rfl rfl (hinv.got 6 _ 15 rfl (hdep ⟨6, .guard⟩ (by simp) rfl) rfl)) (fun hc hwt => ?_) (fun hc => ⟨fun h => (by rw [hc] at h; cases h), trivial⟩)
      have hb0 : Below wx.heap.size wx (wx.alloc (.cells (two B.serv B.nb) 3)) := (Below.refl _ _).alloc (Nat.le_refl _) _
      exact duty_made (C := fun w' => MmAt w' P B ∧ Below w.heap.size w w' ∧ B0 ≤ w'.heap.size) (S := Stay B0) (R := fun v w' => gTab B P B0 most b1 b2 b3 b4 11 v w') (J := fun _ _ => True) hwt (ex_ints2 rfl (hinv.got 8 _ 17 rfl (hdep ⟨8, .data⟩ (by simp) rfl) rfl hc) (hinv.got 10 _ 19 rfl (hdep ⟨10, .data⟩ (by simp) rfl) rfl hc)) ⟨hM.on hb0, hBx.trans (hb0.mono hBx.size), Nat.le_trans hSx hb0.size⟩ (fun _ _ _ _ h => below_has hb0 h (Has.lt h)) (fun _ => ⟨wx.heap.size, hSx, rfl, Has.new _ _⟩) trivial
    · refine duty_if (C := fun w' => MmAt w' P B ∧ Below w.heap.size w w' ∧ B0 ≤ w'.heap.size) (S := Stay B0) (R := fun v w' => gTab B P B0 most b1 b2 b3 b4 12 v w') (J := fun _ _ => True) (c := b1) (j := 6) rfl (yielded_of (o := _) (d := 15) rfl rfl (hinv.got 6 _ 15 rfl (hdep ⟨6, .guard⟩ (by simp) rfl) rfl)) (fun hc hwt => ?_) (fun hc => ⟨fun h => (by rw [hc] at h; cases h), trivial⟩)
      obtain ⟨b', hb1, e20, hb3⟩ : IsTwo B0 B.serv B.nb (a.eval (.tmp 20)) wx := (hinv.got 11 _ 20 rfl (hdep ⟨11, .data⟩ (by simp) rfl) rfl hc)
      exact duty_call (C := fun w' => MmAt w' P B ∧ Below w.heap.size w w' ∧ B0 ≤ w'.heap.size) (S := Stay B0) (R := fun v w' => gTab B P B0 most b1 b2 b3 b4 12 v w') (J := fun _ _ => True) hwt (f := 28) (args := #[.int .i64 7, a.eval (.tmp 20)]) (by kernel_rfl) (by rw [e20]; exact (K7.out b' wx hb3).mono (fun e w' ⟨h1, h2⟩ => ⟨h1, by subst h2; exact Below.refl _ _⟩)) (fun w' hb => ⟨⟨hM.on hb, hBx.trans (hb.mono hBx.size), Nat.le_trans hSx hb.size⟩, fun _ _ _ _ h => below_has hb h (Has.lt h), fun _ => rfl, trivial⟩)
    · have e1 : a.eval (.tmp 15) = .bool (b1) := (hinv.got 6 _ 15 rfl (hdep ⟨6, .data⟩ (by simp) rfl) rfl)
      have e2 : (b1) = true → a.eval (.tmp 21) = .bool b2 := (hinv.got 12 _ 21 rfl (hdep ⟨12, .data⟩ (by simp) rfl) rfl)
      refine duty_value (C := fun w' => MmAt w' P B ∧ Below w.heap.size w w' ∧ B0 ≤ w'.heap.size) (S := Stay B0) (R := fun v w' => gTab B P B0 most b1 b2 b3 b4 13 v w') (J := fun _ _ => True) (fun _ _ _ _ _ _ h => h) hC (wanted_free rfl) (ex_pick rfl e1) ?_ trivial
      exact pick_is (b1) b2 _ e2
    · exact duty_value (C := fun w' => MmAt w' P B ∧ Below w.heap.size w w' ∧ B0 ≤ w'.heap.size) (S := Stay B0) (R := fun v w' => gTab B P B0 most b1 b2 b3 b4 14 v w') (J := fun _ _ => True) (fun _ _ _ _ _ _ h => h) hC (wanted_free rfl) (ex_move rfl) (((hinv.got 13 _ 22 rfl (hdep ⟨13, .data⟩ (by simp) rfl) rfl) : a.eval (.tmp 22) = _)) trivial
    · refine duty_if (C := fun w' => MmAt w' P B ∧ Below w.heap.size w w' ∧ B0 ≤ w'.heap.size) (S := Stay B0) (R := fun v w' => gTab B P B0 most b1 b2 b3 b4 15 v w') (J := fun _ _ => True) (c := b1 && b2) (j := 14) rfl (yielded_of (o := _) (d := 23) rfl rfl (hinv.got 14 _ 23 rfl (hdep ⟨14, .guard⟩ (by simp) rfl) rfl)) (fun hc hwt => ?_) (fun hc => ⟨fun h => (by rw [hc] at h; cases h), trivial⟩)
      exact duty_value (C := fun w' => MmAt w' P B ∧ Below w.heap.size w w' ∧ B0 ≤ w'.heap.size) (S := Stay B0) (R := fun v w' => gTab B P B0 most b1 b2 b3 b4 15 v w') (J := fun _ _ => True) (fun _ _ _ _ _ _ h => h) hC hwt (ex_field rfl (hinv.old' 1 (by kernel_rfl)) (field5 _ _)) (fun _ => rfl) trivial
    · refine duty_if (C := fun w' => MmAt w' P B ∧ Below w.heap.size w w' ∧ B0 ≤ w'.heap.size) (S := Stay B0) (R := fun v w' => gTab B P B0 most b1 b2 b3 b4 16 v w') (J := fun _ _ => True) (c := b1 && b2) (j := 14) rfl (yielded_of (o := _) (d := 23) rfl rfl (hinv.got 14 _ 23 rfl (hdep ⟨14, .guard⟩ (by simp) rfl) rfl)) (fun hc hwt => ?_) (fun hc => ⟨fun h => (by rw [hc] at h; cases h), trivial⟩)
      exact duty_value (C := fun w' => MmAt w' P B ∧ Below w.heap.size w w' ∧ B0 ≤ w'.heap.size) (S := Stay B0) (R := fun v w' => gTab B P B0 most b1 b2 b3 b4 16 v w') (J := fun _ _ => True) (fun _ _ _ _ _ _ h => h) hC hwt (ex_load_cell rfl (hinv.got 15 _ 24 rfl (hdep ⟨15, .data⟩ (by simp) rfl) rfl hc) (load_names hM.ns)) (fun _ => rfl) trivial
    · refine duty_if (C := fun w' => MmAt w' P B ∧ Below w.heap.size w w' ∧ B0 ≤ w'.heap.size) (S := Stay B0) (R := fun v w' => gTab B P B0 most b1 b2 b3 b4 17 v w') (J := fun _ _ => True) (c := b1 && b2) (j := 14) rfl (yielded_of (o := _) (d := 23) rfl rfl (hinv.got 14 _ 23 rfl (hdep ⟨14, .guard⟩ (by simp) rfl) rfl)) (fun hc hwt => ?_) (fun hc => ⟨fun h => (by rw [hc] at h; cases h), trivial⟩)
      exact duty_value (C := fun w' => MmAt w' P B ∧ Below w.heap.size w w' ∧ B0 ≤ w'.heap.size) (S := Stay B0) (R := fun v w' => gTab B P B0 most b1 b2 b3 b4 17 v w') (J := fun _ _ => True) (fun _ _ _ _ _ _ h => h) hC hwt (ex_len_names rfl (hinv.got 16 _ 25 rfl (hdep ⟨16, .data⟩ (by simp) rfl) rfl hc)) (fun _ => rfl) trivial
    · refine duty_if (C := fun w' => MmAt w' P B ∧ Below w.heap.size w w' ∧ B0 ≤ w'.heap.size) (S := Stay B0) (R := fun v w' => gTab B P B0 most b1 b2 b3 b4 18 v w') (J := fun _ _ => True) (c := b1 && b2) (j := 14) rfl (yielded_of (o := _) (d := 23) rfl rfl (hinv.got 14 _ 23 rfl (hdep ⟨14, .guard⟩ (by simp) rfl) rfl)) (fun hc hwt => ?_) (fun hc => ⟨fun h => (by rw [hc] at h; cases h), trivial⟩)
      exact duty_value (C := fun w' => MmAt w' P B ∧ Below w.heap.size w w' ∧ B0 ≤ w'.heap.size) (S := Stay B0) (R := fun v w' => gTab B P B0 most b1 b2 b3 b4 18 v w') (J := fun _ _ => True) (fun _ _ _ _ _ _ h => h) hC hwt (ex_field rfl (hinv.old' 1 (by kernel_rfl)) (field0 _ _)) (fun _ => rfl) trivial
    · refine duty_if (C := fun w' => MmAt w' P B ∧ Below w.heap.size w w' ∧ B0 ≤ w'.heap.size) (S := Stay B0) (R := fun v w' => gTab B P B0 most b1 b2 b3 b4 19 v w') (J := fun _ _ => True) (c := b1 && b2) (j := 14) rfl (yielded_of (o := _) (d := 23) rfl rfl (hinv.got 14 _ 23 rfl (hdep ⟨14, .guard⟩ (by simp) rfl) rfl)) (fun hc hwt => ?_) (fun hc => ⟨fun h => (by rw [hc] at h; cases h), trivial⟩)
      exact duty_value (C := fun w' => MmAt w' P B ∧ Below w.heap.size w w' ∧ B0 ≤ w'.heap.size) (S := Stay B0) (R := fun v w' => gTab B P B0 most b1 b2 b3 b4 19 v w') (J := fun _ _ => True) (fun _ _ _ _ _ _ h => h) hC hwt (ex_load_cell rfl (hinv.got 18 _ 27 rfl (hdep ⟨18, .data⟩ (by simp) rfl) rfl hc) (load_int hM.kind)) (fun _ => rfl) trivial
    · refine duty_if (C := fun w' => MmAt w' P B ∧ Below w.heap.size w w' ∧ B0 ≤ w'.heap.size) (S := Stay B0) (R := fun v w' => gTab B P B0 most b1 b2 b3 b4 20 v w') (J := fun _ _ => True) (c := b1 && b2) (j := 14) rfl (yielded_of (o := _) (d := 23) rfl rfl (hinv.got 14 _ 23 rfl (hdep ⟨14, .guard⟩ (by simp) rfl) rfl)) (fun hc hwt => ?_) (fun hc => ⟨fun h => (by rw [hc] at h; cases h), trivial⟩)
      have e28 : a.eval (.tmp 28) = .int .i64 B.kind := (hinv.got 19 _ 28 rfl (hdep ⟨19, .data⟩ (by simp) rfl) rfl hc)
      exact duty_call (C := fun w' => MmAt w' P B ∧ Below w.heap.size w w' ∧ B0 ≤ w'.heap.size) (S := Stay B0) (R := fun v w' => gTab B P B0 most b1 b2 b3 b4 20 v w') (J := fun _ _ => True) hwt (f := 29) (args := #[a.eval (.tmp 28)]) (by kernel_rfl) (by rw [e28]; exact (KM.out wx).mono (fun e w' ⟨h1, h2⟩ => ⟨h1, by subst h2; exact Below.refl _ _⟩)) (fun w' hb => ⟨⟨hM.on hb, hBx.trans (hb.mono hBx.size), Nat.le_trans hSx hb.size⟩, fun _ _ _ _ h => below_has hb h (Has.lt h), fun _ => rfl, trivial⟩)
    · refine duty_if (C := fun w' => MmAt w' P B ∧ Below w.heap.size w w' ∧ B0 ≤ w'.heap.size) (S := Stay B0) (R := fun v w' => gTab B P B0 most b1 b2 b3 b4 21 v w') (J := fun _ _ => True) (c := b1 && b2) (j := 14) rfl (yielded_of (o := _) (d := 23) rfl rfl (hinv.got 14 _ 23 rfl (hdep ⟨14, .guard⟩ (by simp) rfl) rfl)) (fun hc hwt => ?_) (fun hc => ⟨fun h => (by rw [hc] at h; cases h), trivial⟩)
      exact duty_value (C := fun w' => MmAt w' P B ∧ Below w.heap.size w w' ∧ B0 ≤ w'.heap.size) (S := Stay B0) (R := fun v w' => gTab B P B0 most b1 b2 b3 b4 21 v w') (J := fun _ _ => True) (fun _ _ _ _ _ _ h => h) hC hwt (ex_leq rfl (hinv.got 17 _ 26 rfl (hdep ⟨17, .data⟩ (by simp) rfl) rfl hc) (hinv.got 20 _ 29 rfl (hdep ⟨20, .data⟩ (by simp) rfl) rfl hc)) (fun _ => congrArg Value.bool H3.out) trivial
    · have e1 : a.eval (.tmp 23) = .bool (b1 && b2) := (hinv.got 14 _ 23 rfl (hdep ⟨14, .data⟩ (by simp) rfl) rfl)
      have e2 : (b1 && b2) = true → a.eval (.tmp 30) = .bool b3 := (hinv.got 21 _ 30 rfl (hdep ⟨21, .data⟩ (by simp) rfl) rfl)
      refine duty_value (C := fun w' => MmAt w' P B ∧ Below w.heap.size w w' ∧ B0 ≤ w'.heap.size) (S := Stay B0) (R := fun v w' => gTab B P B0 most b1 b2 b3 b4 22 v w') (J := fun _ _ => True) (fun _ _ _ _ _ _ h => h) hC (wanted_free rfl) (ex_pick rfl e1) ?_ trivial
      exact pick_is (b1 && b2) b3 _ e2
    · exact duty_value (C := fun w' => MmAt w' P B ∧ Below w.heap.size w w' ∧ B0 ≤ w'.heap.size) (S := Stay B0) (R := fun v w' => gTab B P B0 most b1 b2 b3 b4 23 v w') (J := fun _ _ => True) (fun _ _ _ _ _ _ h => h) hC (wanted_free rfl) (ex_move rfl) (((hinv.got 22 _ 31 rfl (hdep ⟨22, .data⟩ (by simp) rfl) rfl) : a.eval (.tmp 31) = _)) trivial
    · refine duty_if (C := fun w' => MmAt w' P B ∧ Below w.heap.size w w' ∧ B0 ≤ w'.heap.size) (S := Stay B0) (R := fun v w' => gTab B P B0 most b1 b2 b3 b4 24 v w') (J := fun _ _ => True) (c := b1 && b2 && b3) (j := 23) rfl (yielded_of (o := _) (d := 32) rfl rfl (hinv.got 23 _ 32 rfl (hdep ⟨23, .guard⟩ (by simp) rfl) rfl)) (fun hc hwt => ?_) (fun hc => ⟨fun h => (by rw [hc] at h; cases h), trivial⟩)
      exact duty_value (C := fun w' => MmAt w' P B ∧ Below w.heap.size w w' ∧ B0 ≤ w'.heap.size) (S := Stay B0) (R := fun v w' => gTab B P B0 most b1 b2 b3 b4 24 v w') (J := fun _ _ => True) (fun _ _ _ _ _ _ h => h) hC hwt (ex_field rfl (hinv.old' 1 (by kernel_rfl)) (field7 _ _)) (fun _ => rfl) trivial
    · refine duty_if (C := fun w' => MmAt w' P B ∧ Below w.heap.size w w' ∧ B0 ≤ w'.heap.size) (S := Stay B0) (R := fun v w' => gTab B P B0 most b1 b2 b3 b4 25 v w') (J := fun _ _ => True) (c := b1 && b2 && b3) (j := 23) rfl (yielded_of (o := _) (d := 32) rfl rfl (hinv.got 23 _ 32 rfl (hdep ⟨23, .guard⟩ (by simp) rfl) rfl)) (fun hc hwt => ?_) (fun hc => ⟨fun h => (by rw [hc] at h; cases h), trivial⟩)
      exact duty_value (C := fun w' => MmAt w' P B ∧ Below w.heap.size w w' ∧ B0 ≤ w'.heap.size) (S := Stay B0) (R := fun v w' => gTab B P B0 most b1 b2 b3 b4 25 v w') (J := fun _ _ => True) (fun _ _ _ _ _ _ h => h) hC hwt (ex_load_cell rfl (hinv.got 24 _ 33 rfl (hdep ⟨24, .data⟩ (by simp) rfl) rfl hc) (load_heads (hM.hs hob))) (fun _ => rfl) trivial
    · refine duty_if (C := fun w' => MmAt w' P B ∧ Below w.heap.size w w' ∧ B0 ≤ w'.heap.size) (S := Stay B0) (R := fun v w' => gTab B P B0 most b1 b2 b3 b4 26 v w') (J := fun _ _ => True) (c := b1 && b2 && b3) (j := 23) rfl (yielded_of (o := _) (d := 32) rfl rfl (hinv.got 23 _ 32 rfl (hdep ⟨23, .guard⟩ (by simp) rfl) rfl)) (fun hc hwt => ?_) (fun hc => ⟨fun h => (by rw [hc] at h; cases h), trivial⟩)
      have e34 : a.eval (.tmp 34) = .slice B.hs.a B.hs.n B.hs.c := (hinv.got 25 _ 34 rfl (hdep ⟨25, .data⟩ (by simp) rfl) rfl hc)
      exact duty_call (C := fun w' => MmAt w' P B ∧ Below w.heap.size w w' ∧ B0 ≤ w'.heap.size) (S := Stay B0) (R := fun v w' => gTab B P B0 most b1 b2 b3 b4 26 v w') (J := fun _ _ => True) hwt (f := 30) (args := #[a.eval (.tmp 34)]) (by kernel_rfl) (by rw [e34]; exact KH.out wx (HA.out.below hBx)) (fun w' hb => ⟨⟨hM.on hb, hBx.trans (hb.mono hBx.size), Nat.le_trans hSx hb.size⟩, fun _ _ _ _ h => below_has hb h (Has.lt h), fun _ => rfl, trivial⟩)
    · have e1 : a.eval (.tmp 32) = .bool (b1 && b2 && b3) := (hinv.got 23 _ 32 rfl (hdep ⟨23, .data⟩ (by simp) rfl) rfl)
      have e2 : (b1 && b2 && b3) = true → a.eval (.tmp 35) = .bool b4 := (hinv.got 26 _ 35 rfl (hdep ⟨26, .data⟩ (by simp) rfl) rfl)
      refine duty_value (C := fun w' => MmAt w' P B ∧ Below w.heap.size w w' ∧ B0 ≤ w'.heap.size) (S := Stay B0) (R := fun v w' => gTab B P B0 most b1 b2 b3 b4 27 v w') (J := fun _ _ => True) (fun _ _ _ _ _ _ h => h) hC (wanted_free rfl) (ex_pick rfl e1) ?_ trivial
      exact pick_is (b1 && b2 && b3) b4 _ e2
    · exact duty_value (C := fun w' => MmAt w' P B ∧ Below w.heap.size w w' ∧ B0 ≤ w'.heap.size) (S := Stay B0) (R := fun v w' => gTab B P B0 most b1 b2 b3 b4 28 v w') (J := fun _ _ => True) (fun _ _ _ _ _ _ h => h) hC (wanted_free rfl) (ex_assign rfl) (((hinv.got 27 _ 36 rfl (hdep ⟨27, .data⟩ (by simp) rfl) rfl) : a.eval (.tmp 36) = _)) trivial
  · intro listed a wx hall hinv
    obtain ⟨_, hBx, _⟩ := hinv.c
    clear hH3 hB3
    obtain ⟨u, hu⟩ : ∃ u : Nat → Value, ∀ t, u t = a.eval (.tmp t) := ⟨_, fun _ => rfl⟩
    rw [frame_back a 37 u hinv.tsize hinv.defers hu]
    have f0 := hinv.old' 0 (by kernel_rfl)
    have f1 := hinv.old' 1 (by kernel_rfl)
    have f3 := hinv.old' 3 (by kernel_rfl)
    have f4 := hinv.old' 4 (by kernel_rfl)
    have f5 := hinv.old' 5 (by kernel_rfl)
    have f6 := hinv.old' 6 (by kernel_rfl)
    have f7 := hinv.old' 7 (by kernel_rfl)
    have f8 := hinv.old' 8 (by kernel_rfl)
    have f2 := (hinv.got 28 _ 2 rfl (hall 28 (by decide)) rfl : a.eval (.tmp 2) = .bool (b1 && b2 && b3 && b4))
    simp only [← hu] at f0 f1 f2 f3 f4 f5 f6 f7 f8
    simp [Act.eval] at f0 f1 f3 f4 f5 f6 f7 f8
    clear hu hinv hall
    show Exit.then _ _ _ (⟨#[u 0, u 1, u 2, u 3, u 4, u 5, u 6, u 7, u 8, u 9, u 10, u 11, u 12, u 13, u 14, u 15, u 16, u 17, u 18, u 19, u 20, u 21, u 22, u 23, u 24, u 25, u 26, u 27, u 28, u 29, u 30, u 31, u 32, u 33, u 34, u 35, u 36], []⟩ : Act) _
    rw [f0, f1, f2, f3, f4, f5, f6, f7, f8]
    clear f0 f1 f2 f3 f4 f5 f6 f7 f8
    go_wp2_with fail
    go_ret
    exact ⟨rfl, hBx⟩
theorem good8_at (m : Mm) (M : Ms) (g : Bool) (hg : decide M.P = g) (w : World) (hT : TabS w) (hL : Lies w m M) : Calls Tryd.prog 13 #[.agg (mmA m)] w fun e w' => e = .returned (.bool g) ∧ Below w.heap.size w w' := by
  by_cases hk : 1 ≤ M.kind ∧ M.kind ≤ 8
  · have hb := hL.bare
    have hgg : g = (decide (in4 m.bare.ver ∧ in4 m.bare.height) && decide (in7 m.bare.serv ∧ in7 m.bare.nb) && decide ((m.bare.ns.n : Int) ≤ ((mostOf m.bare.kind : Nat) : Int)) && decide (headsG M.bare.heads)) := by
      rw [← hg, hb.ver, hb.height, hb.serv, hb.nb, hb.n1, hb.kind, bare_kind, Bool.eq_iff_iff]
      simp only [Bool.and_eq_true, decide_eq_true_eq, and_assoc]
      have := P_parts M
      simp only [and_assoc] at this
      rw [this]
      constructor
      · rintro ⟨_, _, h1, h2, h3, h4, h5, h6⟩
        exact ⟨h1, h2, h3, h4, by omega, h6⟩
      · rintro ⟨h1, h2, h3, h4, h5, h6⟩
        exact ⟨hk.1, hk.2, h1, h2, h3, h4, by omega, h6⟩
    rw [hgg]
    exact good8_yes m hL.mok w hT (by rw [hL.kind]; exact wordK_some _ hk) m.bare rfl _ _ _ _ rfl rfl rfl M.bare.heads hb.n2 hb.l2 hb.heads rfl
  · have hgf : g = false := by rw [← hg]; exact decide_eq_false (fun h => hk (P_kind h))
    subst hgf
    exact good8_none m w hT (by rw [hL.kind]; exact wordK_none _ hk)
end Go.Proofs.YtmpllagaeoolaaaDoor
/-
  speech: write.
-/
namespace Go.Proofs.YtmpllagaeoolaaaDoor
open Go.RowKit Mem Sc
/-- two numbers are put -/
theorem put2x_at (b : Nat) (v : Value) (l : List UInt8) (size : Int) (m : Nat) (hm : near size 8 = m) (x y : Int) (w : World) (H : Nat) (hH : w.heap.size = H) (h : PenAt w b v l) (hsz : l.length ≤ 70368744177600) :
    Calls Tryd.prog 41 #[.pointer (some ⟨b, 0, none⟩), .int .i64 size, .slice (some ⟨H, 0, none⟩) 2 2] (w.alloc (.cells #[.int .i64 x, .int .i64 y] 3)) fun r w' => PenPost w b v (l ++ (num m x ++ num m y)) r w' := by
  subst hH hm
  have hb : Below w.heap.size w (w.alloc (.cells #[.int .i64 x, .int .i64 y] 3)) := (Below.refl _ _).alloc (Nat.le_refl _) _
  refine (put_at b v l size _ [x, y] 2 2 rfl _ (h.below hb) (IntsAt.new w h _ [x, y] _ rfl) (by omega)).mono ?_
  rintro r w' ⟨v', rfl, hP, hS⟩
  have e : nums (near size 8) [x, y] = num (near size 8) x ++ num (near size 8) y := by simp [nums]
  rw [e] at hP
  exact ⟨v', rfl, hP, hS.below hb⟩
/-- names that lay there ahead of the pen lie apart from it -/
theorem apart_old {w0 w : World} {b : Nat} {v : Value} {l : List UInt8} {a : Option Addr} {ls : List (List UInt8)} (hN : NamesAt w0 a ls) (hb0 : w0.heap.size ≤ b) (hP : PenAt w b v l) : 0 < ls.length → Apart b v a := fun h0 p hp => by
  obtain ⟨ab, ao, ha, hlt, _⟩ := hN h0
  obtain rfl := Option.some.inj (hp.symm.trans ha)
  exact ⟨by show ab ≠ b; omega, fun e => by have := (hP.ownLt e).1; simp only at this; omega⟩
theorem fmap_next {α : Type} (g : α → List UInt8) (xs : List α) (k : Nat) (hk : k < xs.length) : (xs.take (k + 1)).flatMap g = (xs.take k).flatMap g ++ g xs[k] := by
  rw [List.take_succ_eq_append_getElem hk, List.flatMap_append]; simp
theorem fmap_le {α : Type} (g : α → List UInt8) (c : Nat) (xs : List α) (h : ∀ x ∈ xs, (g x).length = c) (k : Nat) : ((xs.take k).flatMap g).length ≤ c * k := by
  induction k with
  | zero => simp
  | succ k ih =>
    by_cases hk : k < xs.length
    · rw [fmap_next g xs k hk, List.length_append, h _ (List.getElem_mem hk), Nat.mul_succ]; omega
    · rw [List.take_of_length_le (by omega)]
      rw [List.take_of_length_le (by omega)] at ih
      rw [Nat.mul_succ]; omega
theorem flatten_map (ls : List (List UInt8)) : ls.flatMap nameL = ls.flatten := by
  induction ls with
  | nil => rfl
  | cons x xs ih => rw [List.flatMap_cons, List.flatten_cons, ih]; rfl
set_option maxRecDepth 100000 in
set_option maxHeartbeats 800000 in
theorem wr_0 (w : World) (b : Nat) (v : Value) (hP : PenAt w b v []) (m : Mm) (h1 : m.kind ≠ 1) (h3 : m.kind ≠ 3) (h4 : m.kind ≠ 4) (h5 : m.kind ≠ 5) (h6 : m.kind ≠ 6) (h7 : m.kind ≠ 7) :
    Calls Tryd.prog 24 #[.pointer (some ⟨b, 0, none⟩), .agg (mmA m)] w fun r w' => PenPost w b v ([]) r w' := by
  have t1 : (m.kind == 1) = false := beq_eq_false_iff_ne.2 h1
  have t3 : (m.kind == 3) = false := beq_eq_false_iff_ne.2 h3
  have t4 : (m.kind == 4) = false := beq_eq_false_iff_ne.2 h4
  have t5 : (m.kind == 5) = false := beq_eq_false_iff_ne.2 h5
  have t6 : (m.kind == 6) = false := beq_eq_false_iff_ne.2 h6
  have t7 : (m.kind == 7) = false := beq_eq_false_iff_ne.2 h7
  clear h1 h3 h4 h5 h6 h7
  have hH := mm_new w m
  have hB : Below w.heap.size w (w.alloc (.cells (mmA m) 27)) := (Below.refl _ _).alloc (Nat.le_refl _) _
  have hP1 := hP.below hB
  clear hP
  go_enter Tryd.func24, Tryd.ntmps24
  go_upto_region 1 with fail
  generalize hkk : w.heap.size = k0 at hH ⊢
  generalize World.alloc _ _ = w1 at *
  have c0 := hH.kind
  go_wp2_with fail
  go_end0
  exact ⟨v, rfl, hP1, (PenStep.refl _ _ _).below hB⟩
set_option maxRecDepth 100000 in
set_option maxHeartbeats 800000 in
theorem wr_1 (w : World) (b : Nat) (v : Value) (hP : PenAt w b v []) (m : Mm) (hk : m.kind = 1) :
    Calls Tryd.prog 24 #[.pointer (some ⟨b, 0, none⟩), .agg (mmA m)] w fun r w' => PenPost w b v (num 4 m.ver ++ num 4 m.height ++ (num 7 m.serv ++ num 7 m.nb)) r w' := by
  have t1 : (m.kind == 1) = true := by rw [hk]; rfl
  clear hk
  have hH := mm_new w m
  have hB : Below w.heap.size w (w.alloc (.cells (mmA m) 27)) := (Below.refl _ _).alloc (Nat.le_refl _) _
  have hP1 := hP.below hB
  have hbk : w.heap.size ≠ b := by have := hP.lt; omega
  have hvk : v.ownBlock ≠ some w.heap.size := fun e => by have := (hP.ownLt e).2; omega
  clear hP
  go_enter Tryd.func24, Tryd.ntmps24
  go_upto_region 1 with fail
  generalize hkk : w.heap.size = k0 at hH hbk hvk ⊢
  generalize World.alloc _ _ = w1 at *
  have c0 := hH.kind
  have hk1 := hH.lt
  have c1 := hH.ver
  have c3 := hH.height
  have C1 := Lib.hid (put2x_at b v [] 4 4 rfl m.ver m.height w1 w1.heap.size rfl hP1 (by simp))
  go_wp2_with fail
  refine C1.out.mono ?_
  rintro r w2 ⟨v2, rfl, hP2, hS2⟩
  have hH2 := hH.pen hS2 hbk hvk
  rw [List.nil_append] at hP2
  have e2 : (num 4 m.ver ++ num 4 m.height).length = 8 := by rw [List.length_append, num_length, num_length]
  clear C1 c1 c3 hH hP1
  generalize hl2 : num 4 m.ver ++ num 4 m.height = l2 at *
  have E2 := Lib.hid hl2
  clear hl2
  have c2 := hH2.serv
  have c4 := hH2.nb
  have C2 := Lib.hid (put2x_at b v2 l2 7 7 rfl m.serv m.nb w2 w2.heap.size rfl hP2 (by omega))
  go_wp2_with fail
  refine C2.out.mono ?_
  rintro r w3 ⟨v3, rfl, hP3, hS3⟩
  go_wp2_with fail
  go_end0
  exact ⟨v3, rfl, by rw [E2.out]; exact hP3, (hS2.trans hS3).below hB⟩
set_option maxRecDepth 100000 in
set_option maxHeartbeats 800000 in
theorem wr_6 (w : World) (b : Nat) (v : Value) (hP : PenAt w b v []) (m : Mm) (hk : m.kind = 6) :
    Calls Tryd.prog 24 #[.pointer (some ⟨b, 0, none⟩), .agg (mmA m)] w fun r w' => PenPost w b v (num 7 m.nb) r w' := by
  have t1 : (m.kind == 1) = false := by rw [hk]; rfl
  have t3 : (m.kind == 3) = false := by rw [hk]; rfl
  have t4 : (m.kind == 4) = false := by rw [hk]; rfl
  have t5 : (m.kind == 5) = false := by rw [hk]; rfl
  have t6 : (m.kind == 6) = true := by rw [hk]; rfl
  clear hk
  have hH := mm_new w m
  have hB : Below w.heap.size w (w.alloc (.cells (mmA m) 27)) := (Below.refl _ _).alloc (Nat.le_refl _) _
  have hP1 := hP.below hB
  have hbk : w.heap.size ≠ b := by have := hP.lt; omega
  have hvk : v.ownBlock ≠ some w.heap.size := fun e => by have := (hP.ownLt e).2; omega
  clear hP
  go_enter Tryd.func24, Tryd.ntmps24
  go_upto_region 1 with fail
  generalize hkk : w.heap.size = k0 at hH hbk hvk ⊢
  generalize World.alloc _ _ = w1 at *
  have c0 := hH.kind
  have c4 := hH.nb
  have C1 := Lib.hid (put1_at b v [] 7 7 rfl m.nb w1 w1.heap.size rfl hP1 (by simp))
  go_wp2_with fail
  refine C1.out.mono ?_
  rintro r w2 ⟨v2, rfl, hP2, hS2⟩
  rw [List.nil_append] at hP2
  go_wp2_with fail
  go_end0
  exact ⟨v2, rfl, hP2, hS2.below hB⟩
set_option maxRecDepth 100000 in
set_option maxHeartbeats 800000 in
theorem wr_7 (w : World) (b : Nat) (v : Value) (hP : PenAt w b v []) (m : Mm) (hk : m.kind = 7) :
    Calls Tryd.prog 24 #[.pointer (some ⟨b, 0, none⟩), .agg (mmA m)] w fun r w' => PenPost w b v (num 7 m.nb) r w' := by
  have t1 : (m.kind == 1) = false := by rw [hk]; rfl
  have t3 : (m.kind == 3) = false := by rw [hk]; rfl
  have t4 : (m.kind == 4) = false := by rw [hk]; rfl
  have t5 : (m.kind == 5) = false := by rw [hk]; rfl
  have t6 : (m.kind == 6) = false := by rw [hk]; rfl
  have t7 : (m.kind == 7) = true := by rw [hk]; rfl
  clear hk
  have hH := mm_new w m
  have hB : Below w.heap.size w (w.alloc (.cells (mmA m) 27)) := (Below.refl _ _).alloc (Nat.le_refl _) _
  have hP1 := hP.below hB
  have hbk : w.heap.size ≠ b := by have := hP.lt; omega
  have hvk : v.ownBlock ≠ some w.heap.size := fun e => by have := (hP.ownLt e).2; omega
  clear hP
  go_enter Tryd.func24, Tryd.ntmps24
  go_upto_region 1 with fail
  generalize hkk : w.heap.size = k0 at hH hbk hvk ⊢
  generalize World.alloc _ _ = w1 at *
  have c0 := hH.kind
  have c4 := hH.nb
  have C1 := Lib.hid (put1_at b v [] 7 7 rfl m.nb w1 w1.heap.size rfl hP1 (by simp))
  go_wp2_with fail
  refine C1.out.mono ?_
  rintro r w2 ⟨v2, rfl, hP2, hS2⟩
  rw [List.nil_append] at hP2
  go_wp2_with fail
  go_end0
  exact ⟨v2, rfl, hP2, hS2.below hB⟩
set_option maxRecDepth 100000 in
set_option maxHeartbeats 800000 in
theorem wr_3 (w0 : World) (w : World) (b : Nat) (hB0 : Below w0.heap.size w0 w) (hb0 : w0.heap.size ≤ b) (v : Value) (hP : PenAt w b v []) (m : Mm) (ho : m.ok) (ls : List (List UInt8)) (hn : m.ns.n = ls.length) (hl : ls.length ≤ 32) (hN : NamesAt w0 m.ns.a ls) (h32 : ∀ x ∈ ls, x.length = 32) (hk : m.kind = 3) :
    Calls Tryd.prog 24 #[.pointer (some ⟨b, 0, none⟩), .agg (mmA m)] w fun r w' => PenPost w b v (num 4 m.ver ++ cnt (ls.length : Nat) ++ ls.flatten ++ m.stop) r w' := by
  have t1 : (m.kind == 1) = false := by rw [hk]; rfl
  have t3 : (m.kind == 3) = true := by rw [hk]; rfl
  have HN := Lib.hid hn
  have hn32 : m.ns.n ≤ 32 := by omega
  clear hn
  clear hk
  have hH := mm_new w m
  have hB : Below w.heap.size w (w.alloc (.cells (mmA m) 27)) := (Below.refl _ _).alloc (Nat.le_refl _) _
  have hP1 := hP.below hB
  have hbk : w.heap.size ≠ b := by have := hP.lt; omega
  have hvk : v.ownBlock ≠ some w.heap.size := fun e => by have := (hP.ownLt e).2; omega
  have hB1 : Below w0.heap.size w0 (w.alloc (.cells (mmA m) 27)) := hB0.trans (hB.mono hB0.size)
  clear hP
  go_enter Tryd.func24, Tryd.ntmps24
  go_upto_region 1 with fail
  generalize hkk : w.heap.size = k0 at hH hbk hvk ⊢
  clear hB0
  generalize World.alloc _ _ = w1 at *
  have c0 := hH.kind
  have hk1 := hH.lt
  have c1 := hH.ver
  have C1 := Lib.hid (put1_at b v [] 4 4 rfl m.ver w1 w1.heap.size rfl hP1 (by simp))
  go_wp2_with fail
  refine C1.out.mono ?_
  rintro r w2 ⟨v2, rfl, hP2, hS2⟩
  have hH2 := hH.pen hS2 hbk hvk
  have hv2 := own_apart hS2 hk1 hvk
  have hB2 := pen_below hB1 hb0 hP1 hS2
  rw [List.nil_append] at hP2
  have e2 : (num 4 m.ver).length = 4 := num_length _ _
  clear C1 c1 hH hP1
  generalize hl2 : num 4 m.ver = l2 at *
  have E2 := Lib.hid hl2
  clear hl2
  have hk2 := hH2.lt
  have c5 := hH2.ns
  have C2 := Lib.hid (pcount_at b v2 l2 (m.ns.n : Nat) w2 hP2 (by omega))
  go_wp2_with fail
  refine C2.out.mono ?_
  rintro r w3 ⟨v3, rfl, hP3, hS3⟩
  have hH3 := hH2.pen hS3 hbk hv2
  have hv3 := own_apart hS3 hk2 hv2
  have hB3 := pen_below hB2 hb0 hP2 hS3
  have e3 : (l2 ++ cnt (m.ns.n : Nat)).length ≤ 13 := by
    have := (cnt_length (m.ns.n : Nat)).2
    rw [List.length_append]; omega
  rw [HN.out] at hP3 e3
  clear C2 c5 hH2 hP2
  generalize hl3 : l2 ++ cnt (ls.length : Nat) = l3 at *
  have E3 := Lib.hid hl3
  clear hl3
  have hk3 := hH3.lt
  have c5 := hH3.ns
  have C3 := Lib.hid (pnames_at b v3 l3 m.ns.a ls m.ns.n m.ns.c HN.out w3 hP3 (hN.below hB3) (apart_old hN hb0 hP3) h32 (by omega))
  go_wp2_with fail
  refine C3.out.mono ?_
  rintro r w4 ⟨v4, rfl, hP4, hS4⟩
  have hH4 := hH3.pen hS4 hbk hv3
  have e4 : (l3 ++ ls.flatten).length ≤ 2000 := by
    rw [List.length_append, flatten_size ls h32]; omega
  clear C3 c5 hH3 hP3
  generalize hl4 : l3 ++ ls.flatten = l4 at *
  have E4 := Lib.hid hl4
  clear hl4
  have r6 := hH4.stop
  have s6 := byteCells_32 ho
  have HO : Hid (m.stop.length = 32) := Lib.hid ho
  have C4 := Lib.hid (pname1_at b v4 l4 m.stop ho w4 w4.heap.size rfl hP4 (by omega))
  have HV := Lib.hid (hv_size ho)
  go_wp2_with (first
    | (with_reducible refine hl_load_mid rfl _ rfl k0 6 rfl m.stop r6 s6 ?_)
    | (with_reducible refine build_hl rfl _ rfl _ rfl HV.out ?_))
  refine C4.out.mono ?_
  rintro r w5 ⟨v5, rfl, hP5, hS5⟩
  go_wp2_with fail
  go_end0
  exact ⟨v5, rfl, by rw [E2.out, E3.out, E4.out]; exact hP5, (((hS2.trans hS3).trans hS4).trans hS5).below hB⟩
set_option maxRecDepth 100000 in
set_option maxHeartbeats 800000 in
theorem wr_4 (w0 : World) (w : World) (b : Nat) (hB0 : Below w0.heap.size w0 w) (hb0 : w0.heap.size ≤ b) (v : Value) (hP : PenAt w b v []) (m : Mm) (ho : m.ok) (a : Option Addr) (n c : Nat) (hsl : m.hs = ⟨a, n, c⟩) (hs : List Hd) (hn : n = hs.length) (hl : hs.length ≤ 64) (hA : HeadersAt w0 a hs) (hg : ∀ x ∈ hs, x.P) (hok : ∀ x ∈ hs, x.ok) (hk : m.kind = 4) :
    Calls Tryd.prog 24 #[.pointer (some ⟨b, 0, none⟩), .agg (mmA m)] w fun r w' => PenPost w b v (cnt (hs.length : Nat) ++ hs.flatMap hd0L) r w' := by
  have t1 : (m.kind == 1) = false := by rw [hk]; rfl
  have t3 : (m.kind == 3) = false := by rw [hk]; rfl
  have t4 : (m.kind == 4) = true := by rw [hk]; rfl
  have HN := Lib.hid hn
  have hn64 : n ≤ 64 := by omega
  clear hn
  have HSL := Lib.hid hsl
  clear hsl
  clear hk
  have hH := mm_new w m
  have hB : Below w.heap.size w (w.alloc (.cells (mmA m) 27)) := (Below.refl _ _).alloc (Nat.le_refl _) _
  have hP1 := hP.below hB
  have hbk : w.heap.size ≠ b := by have := hP.lt; omega
  have hvk : v.ownBlock ≠ some w.heap.size := fun e => by have := (hP.ownLt e).2; omega
  have hB1 : Below w0.heap.size w0 (w.alloc (.cells (mmA m) 27)) := hB0.trans (hB.mono hB0.size)
  clear hP
  go_enter Tryd.func24, Tryd.ntmps24
  go_upto_region 1 with fail
  generalize hkk : w.heap.size = k0 at hH hbk hvk ⊢
  clear hB0
  generalize World.alloc _ _ = w1 at *
  have c0 := hH.kind
  have hk1 := hH.lt
  have c8 : w1.cell? ⟨k0, 38, none⟩ = some (.slice a n c) := by rw [hH.hs ho, HSL.out]
  have C1 := Lib.hid (pcount_at b v [] (n : Nat) w1 hP1 (by simp))
  go_wp2_with fail
  refine C1.out.mono ?_
  rintro r w2 ⟨v2, rfl, hP2, hS2⟩
  have hH2 := hH.pen hS2 hbk hvk
  have hB2 := pen_below hB1 hb0 hP1 hS2
  rw [List.nil_append] at hP2
  have e2 := (cnt_length (hs.length : Nat)).2
  rw [HN.out] at hP2
  clear C1 c8 hH hP1
  generalize hl2 : cnt (hs.length : Nat) = l2 at *
  have E2 := Lib.hid hl2
  clear hl2
  have c8 : w2.cell? ⟨k0, 38, none⟩ = some (.slice a n c) := by rw [hH2.hs ho, HSL.out]
  have HA := Lib.hid hA
  have HG := Lib.hid hg
  have HK := Lib.hid hok
  have HS2 := Lib.hid hS2
  have HBw := Lib.hid hB
  clear hA hg hok hS2 hB hvk hbk
  go_upto_region 13 with fail
  clear c0 c8 hH2 hB1 hk1
  go_loopw [57] (fun i wr => ∃ (k : Nat) (v' : Value), k ≤ n ∧ i = .int .i64 k ∧ PenAt wr b v' (l2 ++ (hs.take k).flatMap hd0L) ∧ PenStep w2 wr b v2 v') (fun i _ => n - (intOf i).toNat)
  case atStart => exact ⟨0, v2, by omega, rfl, by simpa using hP2, PenStep.refl _ _ _⟩
  case round =>
    obtain ⟨k, v3, hk, rfl, hP3, hS3⟩ := hrel
    by_cases hlt : k < n
    · have hkl : k < hs.length := by rw [← HN.out]; exact hlt
      have hB3 := pen_below hB2 hb0 hP2 hS3
      obtain ⟨ab, ao, rfl, habl, hc⟩ := (HA.out.below hB3) (by omega)
      have h1 := hc k hkl
      have hxp := HG.out _ (List.getElem_mem hkl)
      have hnext := fmap_next hd0L hs k hkl
      have hle := fmap_le hd0L 81 hs (fun x hx => by unfold hd0L; rw [List.length_append, Hd.enc_length (HK.out x hx)]; rfl) k
      have s2 := hdC_length h1.1
      have s3 := hdA_size h1.1
      have q2 := h1.2
      have hxo := h1.1
      have e3 : (l2 ++ (hs.take k).flatMap hd0L).length ≤ 6000 := by
        rw [List.length_append]; omega
      generalize hs[k] = x at *
      have HE : Hid (l2 ++ (hs.take (k + 1)).flatMap hd0L = (l2 ++ (hs.take k).flatMap hd0L) ++ x.enc ++ cnt 0) := Lib.hid (by
        rw [hnext]; unfold hd0L; simp only [List.append_assoc]; rfl)
      generalize l2 ++ (hs.take k).flatMap hd0L = l3 at *
      clear h1 hc hkl hnext hle
      have hN := hd_newz wr
      have hz0 := hdA_size hdZ_ok
      go_upto_region 15 with (first
        | (with_reducible refine hd_load_mid rfl _ rfl ab (ao + k * 68) rfl x q2 s2 ?_)
        | (with_reducible refine hd_store rfl _ _ rfl wr.heap.size _ x rfl rfl rfl s3 hN hz0 ?_))
      obtain ⟨X, hX⟩ : ∃ X, X = wr.heap.size := ⟨_, rfl⟩
      generalize hw4 : World.setRow _ _ _ = w4
      have hN2 : HdAt w4 X x := by rw [← hw4, hX]; exact Has.row hN _
      have hBn : Below wr.heap.size wr w4 := by rw [← hw4]; exact below_setRow ((Below.refl _ _).alloc (Nat.le_refl _) _) (Nat.le_refl _) _
      rw [← hX]
      clear hN hX hw4
      have hP4 := hP3.below hBn
      have C2 := Lib.hid (write_yes b v3 l3 x hxo hxp w4 hP4 (by omega))
      go_wp2_with (with_reducible refine hd_load rfl _ rfl X rfl hN2 s3 ?_)
      refine C2.out.mono ?_
      rintro r w5 ⟨v5, rfl, hP5, hS5⟩
      have e5 : (l3 ++ x.enc).length ≤ 6080 := by rw [List.length_append, Hd.enc_length hxo]; omega
      clear C2 hP4
      generalize l3 ++ x.enc = l5 at *
      have C3 := Lib.hid (pcount_at b v5 l5 0 w5 hP5 (by omega))
      go_wp2_with fail
      refine C3.out.mono ?_
      rintro r w6 ⟨v6, rfl, hP6, hS6⟩
      clear C3 hP5 hN2
      have hS := hS3.trans ((hS5.below hBn).trans hS6)
      clear q2 s2 s3 hS3 hS5 hS6 hBn
      go_wp2_with fail
      go_roundw
      case rel => exact ⟨k + 1, v6, hlt, by go_num, by rw [HE.out]; exact hP6, hS⟩
      case measure => simp [intOf]; omega
    · obtain rfl : k = n := by omega
      have HT : Hid (hs.take k = hs) := Lib.hid (List.take_of_length_le (by rw [HN.out]; exact Nat.le_refl _))
      go_wp2_with fail
      go_end0
      exact ⟨v3, rfl, by rw [HT.out] at hP3; rw [E2.out]; exact hP3, (HS2.out.trans hS3).below HBw.out⟩
set_option maxRecDepth 100000 in
set_option maxHeartbeats 800000 in
theorem wr_5 (w0 : World) (w : World) (b : Nat) (hB0 : Below w0.heap.size w0 w) (hb0 : w0.heap.size ≤ b) (v : Value) (hP : PenAt w b v []) (m : Mm) (a : Option Addr) (n c : Nat) (hsl : m.ns = ⟨a, n, c⟩) (ls : List (List UInt8)) (hn : n = ls.length) (hl : ls.length ≤ 32) (hN : NamesAt w0 a ls) (h32 : ∀ x ∈ ls, x.length = 32) (hk : m.kind = 5) :
    Calls Tryd.prog 24 #[.pointer (some ⟨b, 0, none⟩), .agg (mmA m)] w fun r w' => PenPost w b v (cnt (ls.length : Nat) ++ ls.flatMap blkL) r w' := by
  have t1 : (m.kind == 1) = false := by rw [hk]; rfl
  have t3 : (m.kind == 3) = false := by rw [hk]; rfl
  have t4 : (m.kind == 4) = false := by rw [hk]; rfl
  have t5 : (m.kind == 5) = true := by rw [hk]; rfl
  have HN := Lib.hid hn
  have hn32 : n ≤ 32 := by omega
  clear hn
  have HSL := Lib.hid hsl
  clear hsl
  clear hk
  have hH := mm_new w m
  have hB : Below w.heap.size w (w.alloc (.cells (mmA m) 27)) := (Below.refl _ _).alloc (Nat.le_refl _) _
  have hP1 := hP.below hB
  have hbk : w.heap.size ≠ b := by have := hP.lt; omega
  have hvk : v.ownBlock ≠ some w.heap.size := fun e => by have := (hP.ownLt e).2; omega
  have hB1 : Below w0.heap.size w0 (w.alloc (.cells (mmA m) 27)) := hB0.trans (hB.mono hB0.size)
  clear hP
  go_enter Tryd.func24, Tryd.ntmps24
  go_upto_region 1 with fail
  generalize hkk : w.heap.size = k0 at hH hbk hvk ⊢
  clear hB0
  generalize World.alloc _ _ = w1 at *
  have c0 := hH.kind
  have hk1 := hH.lt
  have c5 : w1.cell? ⟨k0, 5, none⟩ = some (.slice a n c) := by rw [hH.ns, HSL.out]
  have C1 := Lib.hid (pcount_at b v [] (n : Nat) w1 hP1 (by simp))
  go_wp2_with fail
  refine C1.out.mono ?_
  rintro r w2 ⟨v2, rfl, hP2, hS2⟩
  have hH2 := hH.pen hS2 hbk hvk
  have hB2 := pen_below hB1 hb0 hP1 hS2
  rw [List.nil_append] at hP2
  have e2 := (cnt_length (ls.length : Nat)).2
  rw [HN.out] at hP2
  clear C1 c5 hH hP1
  generalize hl2 : cnt (ls.length : Nat) = l2 at *
  have E2 := Lib.hid hl2
  clear hl2
  have c5 : w2.cell? ⟨k0, 5, none⟩ = some (.slice a n c) := by rw [hH2.ns, HSL.out]
  have HA := Lib.hid hN
  have HK := Lib.hid h32
  have HS2 := Lib.hid hS2
  have HBw := Lib.hid hB
  clear hN h32 hS2 hB hvk hbk
  go_upto_region 21 with fail
  clear c0 c5 hH2 hB1 hk1
  go_loopw [77] (fun i wr => ∃ (k : Nat) (v' : Value), k ≤ n ∧ i = .int .i64 k ∧ PenAt wr b v' (l2 ++ (ls.take k).flatMap blkL) ∧ PenStep w2 wr b v2 v') (fun i _ => n - (intOf i).toNat)
  case atStart => exact ⟨0, v2, by omega, rfl, by simpa using hP2, PenStep.refl _ _ _⟩
  case round =>
    obtain ⟨k, v3, hk, rfl, hP3, hS3⟩ := hrel
    by_cases hlt : k < n
    · have hkl : k < ls.length := by rw [← HN.out]; exact hlt
      have hB3 := pen_below hB2 hb0 hP2 hS3
      obtain ⟨ab, ao, rfl, habl, hc⟩ := (HA.out.below hB3) (by omega)
      have h1 := hc k hkl
      have hnext := fmap_next blkL ls k hkl
      have hle := fmap_le blkL 36 ls (fun x hx => by unfold blkL; rw [List.length_append, num_length, HK.out x hx]) k
      have s2 := byteCells_32 h1.1
      have HS3 := Lib.hid (hv_size h1.1)
      have q2 := h1.2
      have hxo := Lib.hid h1.1
      have e3 : (l2 ++ (ls.take k).flatMap blkL).length ≤ 2000 := by
        rw [List.length_append]; omega
      generalize ls[k] = x at *
      have hone := bytesV_one x
      have HE : Hid (l2 ++ (ls.take (k + 1)).flatMap blkL = (l2 ++ (ls.take k).flatMap blkL) ++ num 4 2 ++ x) := Lib.hid (by
        rw [hnext]; unfold blkL; simp only [List.append_assoc])
      generalize l2 ++ (ls.take k).flatMap blkL = l3 at *
      clear h1 hc hkl hnext hle
      have hN := h0_new wr 24
      have hz0 : h0.size = 32 := rfl
      have HZ := Lib.hid hz0
      clear hz0
      go_upto_region 23 with (first
        | (with_reducible refine hl_load_mid rfl _ rfl ab (ao + k * 32) rfl x q2 s2 ?_)
        | (with_reducible refine hl_store rfl _ _ rfl wr.heap.size _ (bytesV x) rfl rfl rfl HS3.out hone h0 hN HZ.out ?_))
      obtain ⟨X, hX⟩ : ∃ X, X = wr.heap.size := ⟨_, rfl⟩
      have hXb : X ≠ b := by have := hP3.lt; omega
      have hXv : v3.ownBlock ≠ some X := fun e => by have := (hP3.ownLt e).2; omega
      generalize hw4 : World.setRow _ _ _ = w4
      have hX4 : Has w4 X (bytesV x) 24 := by rw [← hw4, hX]; exact hN.row _
      have hB4 : Below wr.heap.size wr w4 := by rw [← hw4]; exact below_setRow ((Below.refl _ _).alloc (Nat.le_refl _) _) (Nat.le_refl _) _
      rw [← hX]
      clear hN hX hw4
      have hP4 := hP3.below hB4
      have C2 := Lib.hid (put1_at b v3 l3 4 4 rfl 2 w4 w4.heap.size rfl hP4 (by omega))
      go_wp2_with fail
      refine C2.out.mono ?_
      rintro r w5 ⟨v5, rfl, hP5, hS5⟩
      have hX5 : Has w5 X (bytesV x) 24 := hS5.has hX4 hXb hXv
      have e5 : (l3 ++ num 4 2).length ≤ 2004 := by rw [List.length_append, num_length]; omega
      clear C2 hP4 hX4
      generalize l3 ++ num 4 2 = l5 at *
      have C3 := Lib.hid (pname1_at b v5 l5 x hxo.out w5 w5.heap.size rfl hP5 (by omega))
      go_wp2_with (first
        | (with_reducible refine hl_load rfl _ rfl X rfl (bytesV x) hX5 HS3.out ?_)
        | (with_reducible refine build_hl rfl _ rfl _ rfl HS3.out ?_))
      refine C3.out.mono ?_
      rintro r w6 ⟨v6, rfl, hP6, hS6⟩
      clear C3 hP5 hX5
      have hS := hS3.trans ((hS5.below hB4).trans hS6)
      clear q2 s2 hS3 hS5 hS6 hB4
      go_wp2_with fail
      go_roundw
      case rel => exact ⟨k + 1, v6, hlt, by go_num, by rw [HE.out]; exact hP6, hS⟩
      case measure => simp [intOf]; omega
    · obtain rfl : k = n := by omega
      have HT : Hid (ls.take k = ls) := Lib.hid (List.take_of_length_le (by rw [HN.out]; exact Nat.le_refl _))
      go_wp2_with fail
      go_end0
      exact ⟨v3, rfl, by rw [HT.out] at hP3; rw [E2.out]; exact hP3, (HS2.out.trans hS3).below HBw.out⟩
/-- what a message that can be puts into an empty pen -/
theorem write8_at (w0 w : World) (hB0 : Below w0.heap.size w0 w) (b : Nat) (hb0 : w0.heap.size ≤ b) (v : Value) (hP : PenAt w b v []) (m : Mm) (M : Ms) (hL : Lies w0 m M) (hp : M.P) :
    Calls Tryd.prog 24 #[.pointer (some ⟨b, 0, none⟩), .agg (mmA m)] w fun r w' => PenPost w b v M.pay r w' := by
  have hk := hL.kind
  unfold Ms.P at hp
  unfold Ms.pay
  obtain ⟨o1, o2, o3⟩ := hL.ok
  by_cases h1 : M.kind = 1
  · rw [if_pos h1]
    have := wr_1 w b v hP m (by rw [hk, h1])
    rwa [hL.ver, hL.height, hL.serv, hL.nb, List.append_assoc] at this
  by_cases h3 : M.kind = 3
  · rw [if_neg h1, if_pos h3] at hp
    rw [if_neg h1, if_pos h3]
    have := wr_3 w0 w b hB0 hb0 v hP m hL.mok M.names hL.n1 hp.2 hL.names o1 (by rw [hk, h3])
    rwa [hL.ver, hL.stop, ← flatten_map, List.append_assoc, List.append_assoc] at this
  by_cases h4 : M.kind = 4
  · rw [if_neg h1, if_neg h3, if_pos h4] at hp
    rw [if_neg h1, if_neg h3, if_pos h4]
    exact wr_4 w0 w b hB0 hb0 v hP m hL.mok m.hs.a m.hs.n m.hs.c rfl M.heads hL.n2 hp.2 hL.heads hp.1 o3 (by rw [hk, h4])
  by_cases h5 : M.kind = 5
  · rw [if_neg h1, if_neg h3, if_neg h4, if_pos h5] at hp
    rw [if_neg h1, if_neg h3, if_neg h4, if_pos h5]
    exact wr_5 w0 w b hB0 hb0 v hP m m.ns.a m.ns.n m.ns.c rfl M.names hL.n1 hp hL.names o1 (by rw [hk, h5])
  by_cases h6 : M.kind = 6
  · rw [if_neg h1, if_neg h3, if_neg h4, if_neg h5, if_pos (.inl h6)]
    have := wr_6 w b v hP m (by rw [hk, h6])
    rwa [hL.nb] at this
  by_cases h7 : M.kind = 7
  · rw [if_neg h1, if_neg h3, if_neg h4, if_neg h5, if_pos (.inr h7)]
    have := wr_7 w b v hP m (by rw [hk, h7])
    rwa [hL.nb] at this
  rw [if_neg h1, if_neg h3, if_neg h4, if_neg h5, if_neg (fun h => h.elim h6 h7)]
  exact wr_0 w b v hP m (by rw [hk]; exact h1) (by rw [hk]; exact h3) (by rw [hk]; exact h4) (by rw [hk]; exact h5) (by rw [hk]; exact h6) (by rw [hk]; exact h7)
end Go.Proofs.YtmpllagaeoolaaaDoor
/-
  speech: Bytes.
-/
namespace Go.Proofs.YtmpllagaeoolaaaDoor
open Go.RowKit Mem Sc
theorem fmap_len {α : Type} (g : α → List UInt8) (c : Nat) (xs : List α) (h : ∀ x ∈ xs, (g x).length = c) : (xs.flatMap g).length ≤ c * xs.length := by
  have := fmap_le g c xs h xs.length
  rwa [List.take_length] at this
theorem pay_len {M : Ms} (hp : M.P) (ho : M.ok) : M.pay.length ≤ 16384 := by
  obtain ⟨o1, o2, o3⟩ := ho
  unfold Ms.P at hp
  unfold Ms.pay
  by_cases h1 : M.kind = 1
  · rw [if_pos h1]; simp only [List.length_append, num_length]; omega
  by_cases h3 : M.kind = 3
  · rw [if_neg h1, if_pos h3] at hp
    rw [if_neg h1, if_pos h3]
    have q1 := (cnt_length (M.names.length : Nat)).2
    have q2 := fmap_len nameL 32 M.names (fun x hx => o1 x hx)
    have q3 := hp.2
    simp only [List.length_append, num_length, o2]
    omega
  by_cases h4 : M.kind = 4
  · rw [if_neg h1, if_neg h3, if_pos h4] at hp
    rw [if_neg h1, if_neg h3, if_pos h4]
    have q1 := (cnt_length (M.heads.length : Nat)).2
    have q2 := fmap_len hd0L 81 M.heads (fun x hx => by unfold hd0L; rw [List.length_append, Hd.enc_length (o3 x hx)]; rfl)
    have q3 := hp.2
    simp only [List.length_append]
    omega
  by_cases h5 : M.kind = 5
  · rw [if_neg h1, if_neg h3, if_neg h4, if_pos h5] at hp
    rw [if_neg h1, if_neg h3, if_neg h4, if_pos h5]
    have q1 := (cnt_length (M.names.length : Nat)).2
    have q2 := fmap_len blkL 36 M.names (fun x hx => by unfold blkL; rw [List.length_append, num_length, o1 x hx])
    simp only [List.length_append]
    omega
  by_cases h6 : M.kind = 6 ∨ M.kind = 7
  · rw [if_neg h1, if_neg h3, if_neg h4, if_neg h5, if_pos h6, num_length]; omega
  rw [if_neg h1, if_neg h3, if_neg h4, if_neg h5, if_neg h6]
  exact Nat.zero_le _
/-- a message's envelope -/
def Ms.env (M : Ms) : Ev := ⟨wordK M.kind, txt M.pay⟩
theorem env_P {M : Ms} (hp : M.P) (ho : M.ok) : M.env.P := ⟨(wordK_P hp).2.1, by show (txt M.pay).size ≤ 16384; rw [txt_size]; exact pay_len hp ho⟩
set_option maxRecDepth 100000 in
set_option maxHeartbeats 1000000 in
theorem bytes8_no (m : Mm) (M : Ms) (hp : ¬ M.P) (w : World) (hT : TabS w) (hL : Lies w m M) :
    Calls Tryd.prog 12 #[.agg (mmA m)] w fun e w' => e = .returned (.tuple #[.string E0, .int .i64 1]) ∧ Below w.heap.size w w' := by
  have KG := Lib.hid (good8_at m M false (decide_eq_false hp))
  have hz := mmA_size hL.mok
  have hH := mm_new w m
  have hB : Below w.heap.size w (w.alloc (.cells (mmA m) 27)) := (Below.refl _ _).alloc (Nat.le_refl _) _
  have hT1 := hT.below hB
  have hL1 := hL.below hB
  clear hp hT hL
  go_enter Tryd.func12, Tryd.ntmps12
  go_upto_region 1 with fail
  generalize World.alloc _ _ = w1 at *
  go_wp2_with (with_reducible refine mm_load rfl _ rfl _ rfl hH hz ?_)
  refine (KG.out _ hT1 hL1).mono ?_
  rintro r w2 ⟨rfl, hb2⟩
  replace hB := hB.trans (hb2.mono hB.size)
  go_wp2_with fail
  go_ret2
  exact ⟨rfl, hB⟩
set_option maxRecDepth 100000 in
set_option maxHeartbeats 1000000 in
theorem bytes8_yes (m : Mm) (M : Ms) (hp : M.P) (w : World) (hT : Tab w) (hS : TabS w) (hL : Lies w m M) :
    Calls Tryd.prog 12 #[.agg (mmA m)] w fun e w' => e = .returned (.tuple #[.string (txt M.env.enc), .int .i64 0]) ∧ Below w.heap.size w w' := by
  have KG := Lib.hid (good8_at m M true (decide_eq_true hp))
  have KW := Lib.hid (word_at m.kind)
  have KR := Lib.hid (fun w' hB b hb v hP => write8_at w w' hB b hb v hP m M hL hp)
  have KE : Hid (∀ w, Tab w → Calls Tryd.prog 25 #[.agg #[.string (wordK m.kind), .string (txt M.pay)]] w fun e w' => e = .returned (.tuple #[.string (txt M.env.enc), .int .i64 0]) ∧ Below w.heap.size w w') :=
    Lib.hid (fun w hT => by
      have := ebytes_yes M.env (env_P hp hL.ok) w hT
      rw [hL.kind]
      exact this)
  have hz := mmA_size hL.mok
  have hH := mm_new w m
  have hB : Below w.heap.size w (w.alloc (.cells (mmA m) 27)) := (Below.refl _ _).alloc (Nat.le_refl _) _
  have HT := Lib.hid hT
  have HS := Lib.hid hS
  have HL := Lib.hid hL
  clear hp hT hS hL
  generalize wordK m.kind = word at *
  generalize txt M.env.enc = res at *
  go_enter Tryd.func12, Tryd.ntmps12
  go_upto_region 1 with fail
  generalize World.alloc _ _ = w1 at *
  go_wp2_with (with_reducible refine mm_load rfl _ rfl _ rfl hH hz ?_)
  refine (KG.out _ (HS.out.below hB) (HL.out.below hB)).mono ?_
  rintro r w2 ⟨rfl, hb2⟩
  replace hH := hH.on hb2
  replace hB := hB.trans (hb2.mono hB.size)
  clear hb2 KG
  have hkw : w.heap.size < w2.heap.size := hH.lt
  go_upto_region 4 with fail
  have hN := pen_new w2
  have hb3 : Below w2.heap.size w2 (w2.alloc (.cells #[.slice none 0 0] 53)) := (Below.refl _ _).alloc (Nat.le_refl _) _
  replace hB := hB.trans (hb3.mono hB.size)
  replace hH := hH.on hb3
  obtain ⟨p, hpe⟩ : ∃ p, p = w2.heap.size := ⟨_, rfl⟩
  rw [← hpe] at hN hkw ⊢
  have hpk : w.heap.size ≤ p := by omega
  have hkp : w.heap.size ≠ p := by omega
  generalize World.alloc _ _ = w3 at *
  clear hb3 hpe
  have hv0 : (Value.slice none 0 0).ownBlock ≠ some w.heap.size := by intro e; cases e
  generalize Value.slice none 0 0 = v0 at *
  have C1 := Lib.hid (KR.out w3 hB p hpk v0 hN)
  go_wp2_with (with_reducible refine mm_load rfl _ rfl _ rfl hH hz ?_)
  refine C1.out.mono ?_
  rintro r w4 ⟨v4, rfl, hP4, hS4⟩
  have hH4 := hH.pen hS4 hkp hv0
  replace hB := pen_below hB hpk hN hS4
  clear C1 KR hS4 hN hH hv0 hz
  have c0 := hH4.kind
  go_wp2_with fail
  refine (KW.out _ (HS.out.below hB)).mono ?_
  rintro r w5 ⟨rfl, rfl⟩
  have CT := Lib.hid (text_txt _ _ _ _ hP4)
  go_wp2_with fail
  refine CT.out.mono ?_
  rintro r w6 ⟨rfl, rfl⟩
  go_wp2_with fail
  refine (KE.out _ (HT.out.below hB)).mono ?_
  rintro r w7 ⟨rfl, hb7⟩
  replace hB := hB.trans (hb7.mono hB.size)
  go_wp2_with fail
  go_ret2
  exact ⟨rfl, hB⟩
end Go.Proofs.YtmpllagaeoolaaaDoor
/-
  speech: Read.
-/
namespace Go.Proofs.YtmpllagaeoolaaaDoor
open Go.RowKit Mem Sc
/-- Read answers a message that lies in new memory -/
def ReadsPost (w : World) (M : Ms) (r : Ending) (w' : World) : Prop := ∃ m : Mm, r = .returned (.tuple #[.agg (mmA m), .int .i64 0]) ∧ Lies w' m M ∧ Below w.heap.size w w'
theorem NamesAt.row {w : World} {a : Option Addr} {ls : List (List UInt8)} (h : NamesAt w a ls) (R : Nat) (hR : ∀ p, a = some p → p.block ≠ R) (cs : Array Value) : NamesAt (w.setRow R cs) a ls := fun h0 => by
  obtain ⟨ab, ao, ha, hlt, hc⟩ := h h0
  refine ⟨ab, ao, ha, by rw [setRow_size]; exact hlt, fun i hi => ⟨(hc i hi).1, fun j u hu => ?_⟩⟩
  rw [← (hc i hi).2 j u hu]
  exact World.cell?_of_block (a := ⟨ab, _, none⟩) (setRow_other w R ab cs (hR _ ha))
theorem HeadersAt.row {w : World} {a : Option Addr} {hs : List Hd} (h : HeadersAt w a hs) (R : Nat) (hR : ∀ p, a = some p → p.block ≠ R) (cs : Array Value) : HeadersAt (w.setRow R cs) a hs := fun h0 => by
  obtain ⟨ab, ao, ha, hlt, hc⟩ := h h0
  refine ⟨ab, ao, ha, by rw [setRow_size]; exact hlt, fun i hi => ⟨(hc i hi).1, fun j u hu => ?_⟩⟩
  rw [← (hc i hi).2 j u hu]
  exact World.cell?_of_block (a := ⟨ab, _, none⟩) (setRow_other w R ab cs (hR _ ha))
theorem Lies.row {w : World} {m : Mm} {M : Ms} (h : Lies w m M) {B : Nat} (hf : Fresh B m) (R : Nat) (hR : R < B) (cs : Array Value) : Lies (w.setRow R cs) m M :=
  ⟨h.kind, h.ver, h.serv, h.height, h.nb, h.stop, h.n1, h.l1, h.names.row R (fun p hp => by have := hf.1 p hp; omega) cs, h.n2, h.l2, h.heads.row R (fun p hp => by have := hf.2 p hp; omega) cs, h.ok⟩
set_option maxRecDepth 100000 in
set_option maxHeartbeats 1600000 in
theorem Read_none (v : Ev) (hk : kindOf v.w = 0) (w : World) (hT : TabS w) :
    Calls Tryd.prog 16 #[.agg (evA v)] w fun r w' => r = .returned (.tuple #[.agg (mmA (mmZ 0)), .int .i64 5]) ∧ Below w.heap.size w w' := by
  have KK := Lib.hid (kind_at v.w)
  rw [hk] at KK
  have hH := ev_new w v
  have hB : Below w.heap.size w (w.alloc (.cells (evA v) 38)) := (Below.refl _ _).alloc (Nat.le_refl _) _
  have HT := Lib.hid hT
  clear hk hT
  have HL := Lib.hid (mmZ_lit 0)
  go_enter Tryd.func16, Tryd.ntmps16
  go_upto_region 1 with fail
  have hR := mm_newz1 w (.cells (evA v) 38)
  have hb1 : Below (w.alloc (.cells (evA v) 38)).heap.size (w.alloc (.cells (evA v) 38)) ((w.alloc (.cells (evA v) 38)).alloc (.cells (mmA (mmZ 0)) 27)) := (Below.refl _ _).alloc (Nat.le_refl _) _
  rw [mmZ_lit 0] at hb1
  replace hH := hH.on hb1
  replace hB := hB.trans (hb1.mono hB.size)
  obtain ⟨P, hP⟩ : ∃ P, P = w.heap.size := ⟨_, rfl⟩
  obtain ⟨R, hRe⟩ : ∃ R, R = w.heap.size + 1 := ⟨_, rfl⟩
  rw [← hRe] at hR ⊢
  rw [← hP] at hH ⊢
  have hRw : w.heap.size ≤ R := by omega
  clear hb1 hP hRe
  generalize World.alloc (World.alloc _ _) _ = w1 at *
  have c0 : w1.cell? ⟨P, 0, none⟩ = some (.string v.w) := hH.c0
  have c1 : w1.cell? ⟨P, 1, none⟩ = some (.string v.p) := hH.c1
  go_wp2_with fail
  refine (KK.out _ (HT.out.below hB)).mono ?_
  rintro r w2 ⟨rfl, rfl⟩
  have hz0 : (mmA (mmZ 0)).size = 39 := rfl
  go_wp2_with (with_reducible refine mm_store rfl _ _ rfl R _ (mmZ 0) rfl rfl HL.out.symm hz0 hR hz0 ?_)
  exact bodyPost_ret (v := .tuple #[.agg (mmA (mmZ 0)), .int .i64 5]) (mm_results2 Tryd.results16 _ R _ rfl rfl (Has.row hR _) hz0) rfl ⟨rfl, below_setRow hB hRw _⟩
set_option maxRecDepth 100000 in
set_option maxHeartbeats 1600000 in
theorem Read_form (v : Ev) (k : Nat) (hk : kindOf v.w = k) (hk0 : k ≠ 0) (w : World) (hT : TabS w) (M : Ms) (e' : Ey) (hm : Ey.msg ⟨v.p, false⟩ (k : Int) = (M, e')) (hd : false = (!e'.bad && decide (e'.s.size = 0))) :
    Calls Tryd.prog 16 #[.agg (evA v)] w fun r w' => r = .returned (.tuple #[.agg (mmA (mmZ 0)), .int .i64 4]) ∧ Below w.heap.size w w' := by
  have KK := Lib.hid (kind_at v.w)
  rw [hk] at KK
  have KR := Lib.hid (fun E w hE => read8_at (k : Int) E ⟨v.p, false⟩ (fun h => by cases h) w hE)
  rw [hm] at KR
  simp only at KR
  have KD := Lib.hid (fun E w hE => done_at E e' w hE _ hd)
  have t0 : ((k : Int) == 0) = false := beq_eq_false_iff_ne.2 (by omega)
  clear hm hd hk0
  have hH := ev_new w v
  have hB : Below w.heap.size w (w.alloc (.cells (evA v) 38)) := (Below.refl _ _).alloc (Nat.le_refl _) _
  have HT := Lib.hid hT
  clear hk hT
  have HL := Lib.hid (mmZ_lit 0)
  go_enter Tryd.func16, Tryd.ntmps16
  go_upto_region 1 with fail
  have hR := mm_newz1 w (.cells (evA v) 38)
  have hb1 : Below (w.alloc (.cells (evA v) 38)).heap.size (w.alloc (.cells (evA v) 38)) ((w.alloc (.cells (evA v) 38)).alloc (.cells (mmA (mmZ 0)) 27)) := (Below.refl _ _).alloc (Nat.le_refl _) _
  rw [mmZ_lit 0] at hb1
  replace hH := hH.on hb1
  replace hB := hB.trans (hb1.mono hB.size)
  obtain ⟨P, hP⟩ : ∃ P, P = w.heap.size := ⟨_, rfl⟩
  obtain ⟨R, hRe⟩ : ∃ R, R = w.heap.size + 1 := ⟨_, rfl⟩
  rw [← hRe] at hR ⊢
  rw [← hP] at hH ⊢
  have hRw : w.heap.size ≤ R := by omega
  clear hb1 hP hRe
  generalize World.alloc (World.alloc _ _) _ = w1 at *
  have c0 : w1.cell? ⟨P, 0, none⟩ = some (.string v.w) := hH.c0
  have c1 : w1.cell? ⟨P, 1, none⟩ = some (.string v.p) := hH.c1
  go_wp2_with fail
  refine (KK.out _ (HT.out.below hB)).mono ?_
  rintro r w2 ⟨rfl, rfl⟩
  have hz0 : (mmA (mmZ 0)).size = 39 := rfl
  have hRl1 := hR.lt
  have hBl1 := hB.size
  go_wp2_with fail
  refine (on_ v.p _).mono ?_
  rintro r w3 ⟨rfl, hE3, hb3⟩
  replace hR := hR.on hb3
  replace hB := hB.trans (hb3.mono hB.size)
  obtain ⟨E, hE⟩ : ∃ E, E = w1.heap.size := ⟨_, rfl⟩
  have hEw : w.heap.size ≤ E := by omega
  have hRE : R ≠ E := by omega
  rw [← hE] at hE3 ⊢
  clear hb3 hE c0 c1 hRl1 hBl1
  have C1 := Lib.hid (KR.out E w3 hE3)
  go_wp2_with fail
  refine C1.out.mono ?_
  rintro r w4 ⟨m, rfl, hL4, hF4, hE4, hg4⟩
  have hR3 := hR.lt
  have hB4 : Below w.heap.size w w4 := hB.trans (gb_toBelow hg4 hEw hB.size)
  have hR4 := hR.grown hg4 (fun h => hRE (Option.some.inj h))
  have hz := mmA_size hL4.mok
  clear C1 KR hR hE3 hg4 hB
  have hN := mm_newz w4
  have hR4l := hR4.lt
  go_upto_region 6 with (with_reducible refine mm_store rfl _ _ rfl w4.heap.size _ m rfl rfl rfl hz hN hz0 ?_)
  obtain ⟨X, hX⟩ : ∃ X, X = w4.heap.size := ⟨_, rfl⟩
  generalize hw5 : World.setRow _ _ _ = w5
  have hX5 : MmAt w5 X m := by rw [← hw5, hX]; exact Has.row hN _
  have hb5 : Below w4.heap.size w4 w5 := by rw [← hw5]; exact below_setRow ((Below.refl _ _).alloc (Nat.le_refl _) _) (Nat.le_refl _) _
  rw [← hX]
  clear hw5 hX hN
  have hR5 := hR4.on hb5
  have hE5 := hE4.on hb5
  have hB5 := hB4.trans (hb5.mono hB4.size)
  have hL5 := hL4.below hb5
  have C2 := Lib.hid (KD.out E w5 hE5)
  clear hR4 hE4 hB4 hL4 hb5 KD
  go_wp2_with fail
  refine C2.out.mono ?_
  rintro r w6 ⟨rfl, rfl⟩
  go_wp2_with (with_reducible refine mm_store rfl _ _ rfl R _ (mmZ 0) rfl rfl HL.out.symm hz0 hR5 hz0 ?_)
  exact bodyPost_ret (v := .tuple #[.agg (mmA (mmZ 0)), .int .i64 4]) (mm_results2 Tryd.results16 _ R _ rfl rfl (Has.row hR5 _) hz0) rfl ⟨rfl, below_setRow hB5 hRw _⟩
set_option maxRecDepth 100000 in
set_option maxHeartbeats 1600000 in
theorem Read_ok (v : Ev) (k : Nat) (hk : kindOf v.w = k) (hk0 : k ≠ 0) (w : World) (hT : TabS w) (M : Ms) (e' : Ey) (hm : Ey.msg ⟨v.p, false⟩ (k : Int) = (M, e')) (hd : true = (!e'.bad && decide (e'.s.size = 0))) :
    Calls Tryd.prog 16 #[.agg (evA v)] w fun r w' => ReadsPost w M r w' := by
  have KK := Lib.hid (kind_at v.w)
  rw [hk] at KK
  have KR := Lib.hid (fun E w hE => read8_at (k : Int) E ⟨v.p, false⟩ (fun h => by cases h) w hE)
  rw [hm] at KR
  simp only at KR
  have KD := Lib.hid (fun E w hE => done_at E e' w hE _ hd)
  have t0 : ((k : Int) == 0) = false := beq_eq_false_iff_ne.2 (by omega)
  clear hm hd hk0
  have hH := ev_new w v
  have hB : Below w.heap.size w (w.alloc (.cells (evA v) 38)) := (Below.refl _ _).alloc (Nat.le_refl _) _
  have HT := Lib.hid hT
  clear hk hT
  have HL := Lib.hid (mmZ_lit 0)
  go_enter Tryd.func16, Tryd.ntmps16
  go_upto_region 1 with fail
  have hR := mm_newz1 w (.cells (evA v) 38)
  have hb1 : Below (w.alloc (.cells (evA v) 38)).heap.size (w.alloc (.cells (evA v) 38)) ((w.alloc (.cells (evA v) 38)).alloc (.cells (mmA (mmZ 0)) 27)) := (Below.refl _ _).alloc (Nat.le_refl _) _
  rw [mmZ_lit 0] at hb1
  replace hH := hH.on hb1
  replace hB := hB.trans (hb1.mono hB.size)
  obtain ⟨P, hP⟩ : ∃ P, P = w.heap.size := ⟨_, rfl⟩
  obtain ⟨R, hRe⟩ : ∃ R, R = w.heap.size + 1 := ⟨_, rfl⟩
  rw [← hRe] at hR ⊢
  rw [← hP] at hH ⊢
  have hRw : w.heap.size ≤ R := by omega
  clear hb1 hP hRe
  generalize World.alloc (World.alloc _ _) _ = w1 at *
  have c0 : w1.cell? ⟨P, 0, none⟩ = some (.string v.w) := hH.c0
  have c1 : w1.cell? ⟨P, 1, none⟩ = some (.string v.p) := hH.c1
  go_wp2_with fail
  refine (KK.out _ (HT.out.below hB)).mono ?_
  rintro r w2 ⟨rfl, rfl⟩
  have hz0 : (mmA (mmZ 0)).size = 39 := rfl
  have hRl1 := hR.lt
  have hBl1 := hB.size
  go_wp2_with fail
  refine (on_ v.p _).mono ?_
  rintro r w3 ⟨rfl, hE3, hb3⟩
  replace hR := hR.on hb3
  replace hB := hB.trans (hb3.mono hB.size)
  obtain ⟨E, hE⟩ : ∃ E, E = w1.heap.size := ⟨_, rfl⟩
  have hEw : w.heap.size ≤ E := by omega
  have hRE : R ≠ E := by omega
  rw [← hE] at hE3 ⊢
  clear hb3 hE c0 c1 hRl1 hBl1
  have C1 := Lib.hid (KR.out E w3 hE3)
  go_wp2_with fail
  refine C1.out.mono ?_
  rintro r w4 ⟨m, rfl, hL4, hF4, hE4, hg4⟩
  have hR3 := hR.lt
  have hB4 : Below w.heap.size w w4 := hB.trans (gb_toBelow hg4 hEw hB.size)
  have hR4 := hR.grown hg4 (fun h => hRE (Option.some.inj h))
  have hz := mmA_size hL4.mok
  clear C1 KR hR hE3 hg4 hB
  have hN := mm_newz w4
  have hR4l := hR4.lt
  go_upto_region 6 with (with_reducible refine mm_store rfl _ _ rfl w4.heap.size _ m rfl rfl rfl hz hN hz0 ?_)
  obtain ⟨X, hX⟩ : ∃ X, X = w4.heap.size := ⟨_, rfl⟩
  generalize hw5 : World.setRow _ _ _ = w5
  have hX5 : MmAt w5 X m := by rw [← hw5, hX]; exact Has.row hN _
  have hb5 : Below w4.heap.size w4 w5 := by rw [← hw5]; exact below_setRow ((Below.refl _ _).alloc (Nat.le_refl _) _) (Nat.le_refl _) _
  rw [← hX]
  clear hw5 hX hN
  have hR5 := hR4.on hb5
  have hE5 := hE4.on hb5
  have hB5 := hB4.trans (hb5.mono hB4.size)
  have hL5 := hL4.below hb5
  have C2 := Lib.hid (KD.out E w5 hE5)
  clear hR4 hE4 hB4 hL4 hb5 KD
  go_wp2_with fail
  refine C2.out.mono ?_
  rintro r w6 ⟨rfl, rfl⟩
  go_wp2_with (first
    | (with_reducible refine mm_load rfl _ rfl X rfl hX5 hz ?_)
    | (with_reducible refine mm_store rfl _ _ rfl R _ m rfl rfl rfl hz hR5 hz0 ?_))
  exact bodyPost_ret (v := .tuple #[.agg (mmA m), .int .i64 0]) (mm_results2 Tryd.results16 _ R _ rfl rfl (Has.row hR5 _) hz) rfl ⟨m, rfl, hL5.row hF4 R hR3 _, below_setRow hB5 hRw _⟩
end Go.Proofs.YtmpllagaeoolaaaDoor
/-
  The reference of layer 8: in, Good, Payload.
-/
namespace Go.Proofs.YtmpllagaeoolaaaDoor
open Go.RowKit Mem Sc
def inB (n : Int) (s : Int) : Bool := if s = 4 then decide (in4 n) else decide (in7 n)
theorem inB4 (n : Int) : inB n 4 = decide (in4 n) := rfl
theorem inB7 (n : Int) : inB n 7 = decide (in7 n) := rfl
set_option maxHeartbeats 400000 in
theorem rin4 (n : Int) (w : World) : Calls Tryd.prog 22 #[.int .i64 n, .int .i64 4] w fun e w' => e = .returned (.bool (inB n 4)) ∧ w = w' := by
  rw [inB4]
  by_cases h0 : n < 0
  · rw [decide_eq_false (fun h => by have := h.1; omega)]
    have t0 : decide (0 ≤ n) = false := decide_eq_false (by omega)
    clear h0
    go_enter Tryd.func22, Tryd.ntmps22
    go_wp2_with fail
    go_ret
    exact ⟨rfl, rfl⟩
  have t0 : decide (0 ≤ n) = true := decide_eq_true (by omega)
  by_cases h1 : n < 4294967296
  · rw [decide_eq_true (show in4 n from ⟨by omega, h1⟩)]
    have e : n / 4294967296 = 0 := by omega
    clear h0 h1
    go_enter Tryd.func22, Tryd.ntmps22
    go_wp2_with fail
    go_ret
    exact ⟨rfl, rfl⟩
  rw [decide_eq_false (fun h => by have := h.2; omega)]
  have e : (n / 4294967296 == 0) = false := beq_eq_false_iff_ne.2 (by omega)
  clear h0 h1
  go_enter Tryd.func22, Tryd.ntmps22
  go_wp2_with fail
  go_ret
  exact ⟨rfl, rfl⟩
set_option maxHeartbeats 400000 in
theorem rin7 (n : Int) (w : World) : Calls Tryd.prog 22 #[.int .i64 n, .int .i64 7] w fun e w' => e = .returned (.bool (inB n 7)) ∧ w = w' := by
  rw [inB7]
  by_cases h0 : n < 0
  · rw [decide_eq_false (fun h => by have := h.1; omega)]
    have t0 : decide (0 ≤ n) = false := decide_eq_false (by omega)
    clear h0
    go_enter Tryd.func22, Tryd.ntmps22
    go_wp2_with fail
    go_ret
    exact ⟨rfl, rfl⟩
  have t0 : decide (0 ≤ n) = true := decide_eq_true (by omega)
  by_cases h1 : n < 72057594037927936
  · rw [decide_eq_true (show in7 n from ⟨by omega, h1⟩)]
    have e : n / 72057594037927936 = 0 := by omega
    clear h0 h1
    go_enter Tryd.func22, Tryd.ntmps22
    go_wp2_with fail
    go_ret
    exact ⟨rfl, rfl⟩
  rw [decide_eq_false (fun h => by have := h.2; omega)]
  have e : (n / 72057594037927936 == 0) = false := beq_eq_false_iff_ne.2 (by omega)
  clear h0 h1
  go_enter Tryd.func22, Tryd.ntmps22
  go_wp2_with fail
  go_ret
  exact ⟨rfl, rfl⟩
set_option maxRecDepth 100000 in
set_option maxHeartbeats 1600000 in
theorem rg_1 (m : Mm) (w : World) (b1 b2 b3 b4 : Bool) (e1 : inB m.ver 4 = b1) (e2 : inB m.height 4 = b2) (e3 : inB m.serv 7 = b3) (e4 : inB m.nb 7 = b4) (hk : m.kind = 1) :
    Calls Tryd.prog 11 #[.agg (mmA m)] w fun e w' => e = .returned (.bool (b1 && b2 && b3 && b4)) ∧ Below w.heap.size w w' := by
  have t1 : (m.kind == 1) = true := by rw [hk]; rfl
  clear hk
  have hH := mm_new w m
  have hB : Below w.heap.size w (w.alloc (.cells (mmA m) 27)) := (Below.refl _ _).alloc (Nat.le_refl _) _
  have K4 := Lib.hid (fun n w => rin4 n w)
  have K7 := Lib.hid (fun n w => rin7 n w)
  cases b1 <;> cases b2 <;> cases b3 <;> cases b4
  all_goals
    go_enter Tryd.func11, Tryd.ntmps11
    go_upto_region 1 with fail
    obtain ⟨P, hPe⟩ : ∃ P, P = w.heap.size := ⟨_, rfl⟩
    rw [← hPe] at hH ⊢
    clear hPe
    generalize World.alloc _ _ = w1 at *
    have c0 := hH.kind
    have c1 := hH.ver
    have c2 := hH.serv
    have c3 := hH.height
    have c4 := hH.nb
    go_wp2_with (first | (go_at_call 22; (with_reducible refine (K4.out _ _).mono ?_); rintro r w9 ⟨rfl, rfl⟩) | (go_at_call 22; (with_reducible refine (K7.out _ _).mono ?_); rintro r w9 ⟨rfl, rfl⟩))
    go_ret
    exact ⟨rfl, hB⟩
set_option maxRecDepth 100000 in
set_option maxHeartbeats 1600000 in
theorem rg_3 (m : Mm) (w : World) (b1 b2 : Bool) (e1 : inB m.ver 4 = b1) (e2 : decide ((m.ns.n : Int) ≤ 32) = b2) (hk : m.kind = 3) :
    Calls Tryd.prog 11 #[.agg (mmA m)] w fun e w' => e = .returned (.bool (b1 && b2)) ∧ Below w.heap.size w w' := by
  have t1 : (m.kind == 1) = false := by rw [hk]; rfl
  have t3 : (m.kind == 3) = true := by rw [hk]; rfl
  clear hk
  have hH := mm_new w m
  have hB : Below w.heap.size w (w.alloc (.cells (mmA m) 27)) := (Below.refl _ _).alloc (Nat.le_refl _) _
  have K4 := Lib.hid (fun n w => rin4 n w)
  have K7 := Lib.hid (fun n w => rin7 n w)
  cases b1 <;> cases b2
  all_goals
    go_enter Tryd.func11, Tryd.ntmps11
    go_upto_region 1 with fail
    obtain ⟨P, hPe⟩ : ∃ P, P = w.heap.size := ⟨_, rfl⟩
    rw [← hPe] at hH ⊢
    clear hPe
    generalize World.alloc _ _ = w1 at *
    have c0 := hH.kind
    have c1 := hH.ver
    have c5 := hH.ns
    go_wp2_with (first | (go_at_call 22; (with_reducible refine (K4.out _ _).mono ?_); rintro r w9 ⟨rfl, rfl⟩) | (go_at_call 22; (with_reducible refine (K7.out _ _).mono ?_); rintro r w9 ⟨rfl, rfl⟩))
    go_ret
    exact ⟨rfl, hB⟩
set_option maxRecDepth 100000 in
set_option maxHeartbeats 1600000 in
theorem rg_5 (m : Mm) (w : World) (b2 : Bool) (e2 : decide ((m.ns.n : Int) ≤ 32) = b2) (hk : m.kind = 5) :
    Calls Tryd.prog 11 #[.agg (mmA m)] w fun e w' => e = .returned (.bool b2) ∧ Below w.heap.size w w' := by
  have t1 : (m.kind == 1) = false := by rw [hk]; rfl
  have t3 : (m.kind == 3) = false := by rw [hk]; rfl
  have t4 : (m.kind == 4) = false := by rw [hk]; rfl
  have t5 : (m.kind == 5) = true := by rw [hk]; rfl
  clear hk
  have hH := mm_new w m
  have hB : Below w.heap.size w (w.alloc (.cells (mmA m) 27)) := (Below.refl _ _).alloc (Nat.le_refl _) _
  cases b2
  all_goals
    go_enter Tryd.func11, Tryd.ntmps11
    go_upto_region 1 with fail
    obtain ⟨P, hPe⟩ : ∃ P, P = w.heap.size := ⟨_, rfl⟩
    rw [← hPe] at hH ⊢
    clear hPe
    generalize World.alloc _ _ = w1 at *
    have c0 := hH.kind
    have c5 := hH.ns
    go_wp2_with fail
    go_ret
    exact ⟨rfl, hB⟩
set_option maxRecDepth 100000 in
set_option maxHeartbeats 1600000 in
theorem rg_6 (m : Mm) (w : World) (b2 : Bool) (e2 : inB m.nb 7 = b2) (hk : m.kind = 6) :
    Calls Tryd.prog 11 #[.agg (mmA m)] w fun e w' => e = .returned (.bool b2) ∧ Below w.heap.size w w' := by
  have t1 : (m.kind == 1) = false := by rw [hk]; rfl
  have t3 : (m.kind == 3) = false := by rw [hk]; rfl
  have t4 : (m.kind == 4) = false := by rw [hk]; rfl
  have t5 : (m.kind == 5) = false := by rw [hk]; rfl
  have t6 : (m.kind == 6) = true := by rw [hk]; rfl
  clear hk
  have hH := mm_new w m
  have hB : Below w.heap.size w (w.alloc (.cells (mmA m) 27)) := (Below.refl _ _).alloc (Nat.le_refl _) _
  have K4 := Lib.hid (fun n w => rin4 n w)
  have K7 := Lib.hid (fun n w => rin7 n w)
  cases b2
  all_goals
    go_enter Tryd.func11, Tryd.ntmps11
    go_upto_region 1 with fail
    obtain ⟨P, hPe⟩ : ∃ P, P = w.heap.size := ⟨_, rfl⟩
    rw [← hPe] at hH ⊢
    clear hPe
    generalize World.alloc _ _ = w1 at *
    have c0 := hH.kind
    have c4 := hH.nb
    go_wp2_with (first | (go_at_call 22; (with_reducible refine (K4.out _ _).mono ?_); rintro r w9 ⟨rfl, rfl⟩) | (go_at_call 22; (with_reducible refine (K7.out _ _).mono ?_); rintro r w9 ⟨rfl, rfl⟩))
    go_ret
    exact ⟨rfl, hB⟩
set_option maxRecDepth 100000 in
set_option maxHeartbeats 1600000 in
theorem rg_7 (m : Mm) (w : World) (b2 : Bool) (e2 : inB m.nb 7 = b2) (hk : m.kind = 7) :
    Calls Tryd.prog 11 #[.agg (mmA m)] w fun e w' => e = .returned (.bool b2) ∧ Below w.heap.size w w' := by
  have t1 : (m.kind == 1) = false := by rw [hk]; rfl
  have t3 : (m.kind == 3) = false := by rw [hk]; rfl
  have t4 : (m.kind == 4) = false := by rw [hk]; rfl
  have t5 : (m.kind == 5) = false := by rw [hk]; rfl
  have t6 : (m.kind == 6) = false := by rw [hk]; rfl
  have t7 : (m.kind == 7) = true := by rw [hk]; rfl
  clear hk
  have hH := mm_new w m
  have hB : Below w.heap.size w (w.alloc (.cells (mmA m) 27)) := (Below.refl _ _).alloc (Nat.le_refl _) _
  have K4 := Lib.hid (fun n w => rin4 n w)
  have K7 := Lib.hid (fun n w => rin7 n w)
  cases b2
  all_goals
    go_enter Tryd.func11, Tryd.ntmps11
    go_upto_region 1 with fail
    obtain ⟨P, hPe⟩ : ∃ P, P = w.heap.size := ⟨_, rfl⟩
    rw [← hPe] at hH ⊢
    clear hPe
    generalize World.alloc _ _ = w1 at *
    have c0 := hH.kind
    have c4 := hH.nb
    go_wp2_with (first | (go_at_call 22; (with_reducible refine (K4.out _ _).mono ?_); rintro r w9 ⟨rfl, rfl⟩) | (go_at_call 22; (with_reducible refine (K7.out _ _).mono ?_); rintro r w9 ⟨rfl, rfl⟩))
    go_ret
    exact ⟨rfl, hB⟩
set_option maxRecDepth 100000 in
set_option maxHeartbeats 1600000 in
theorem rg_0 (m : Mm) (w : World) (b1 b2 : Bool) (e1 : (m.kind == 2) = b1) (e2 : (m.kind == 8) = b2) (h1 : m.kind ≠ 1) (h3 : m.kind ≠ 3) (h4 : m.kind ≠ 4) (h5 : m.kind ≠ 5) (h6 : m.kind ≠ 6) (h7 : m.kind ≠ 7) :
    Calls Tryd.prog 11 #[.agg (mmA m)] w fun e w' => e = .returned (.bool (b1 || b2)) ∧ Below w.heap.size w w' := by
  have t1 : (m.kind == 1) = false := beq_eq_false_iff_ne.2 h1
  have t3 : (m.kind == 3) = false := beq_eq_false_iff_ne.2 h3
  have t4 : (m.kind == 4) = false := beq_eq_false_iff_ne.2 h4
  have t5 : (m.kind == 5) = false := beq_eq_false_iff_ne.2 h5
  have t6 : (m.kind == 6) = false := beq_eq_false_iff_ne.2 h6
  have t7 : (m.kind == 7) = false := beq_eq_false_iff_ne.2 h7
  clear h1 h3 h4 h5 h6 h7
  have hH := mm_new w m
  have hB : Below w.heap.size w (w.alloc (.cells (mmA m) 27)) := (Below.refl _ _).alloc (Nat.le_refl _) _
  cases b1 <;> cases b2
  all_goals
    go_enter Tryd.func11, Tryd.ntmps11
    go_upto_region 1 with fail
    obtain ⟨P, hPe⟩ : ∃ P, P = w.heap.size := ⟨_, rfl⟩
    rw [← hPe] at hH ⊢
    clear hPe
    generalize World.alloc _ _ = w1 at *
    have c0 := hH.kind
    go_wp2_with fail
    go_ret
    exact ⟨rfl, hB⟩
set_option maxRecDepth 100000 in
set_option maxHeartbeats 1600000 in
theorem rga_4 (m : Mm) (ho : m.ok) (w : World) (a : Option Addr) (n c : Nat) (hsl : m.hs = ⟨a, n, c⟩) (hs : List Hd) (hn : n = hs.length) (hl : n ≤ 4611686018427387904) (hA : HeadersAt w a hs) (hg : ∀ x ∈ hs, x.P) (b2 : Bool) (e2 : decide ((n : Int) ≤ 64) = b2) (hk : m.kind = 4) :
    Calls Tryd.prog 11 #[.agg (mmA m)] w fun e w' => e = .returned (.bool b2) ∧ Below w.heap.size w w' := by
  have t1 : (m.kind == 1) = false := by rw [hk]; rfl
  have t3 : (m.kind == 3) = false := by rw [hk]; rfl
  have t4 : (m.kind == 4) = true := by rw [hk]; rfl
  clear hk
  have hH := mm_new w m
  have hB : Below w.heap.size w (w.alloc (.cells (mmA m) 27)) := (Below.refl _ _).alloc (Nat.le_refl _) _
  have HG := Lib.hid hg
  clear hg
  have HN := Lib.hid hn
  have HA := Lib.hid hA
  have HSL := Lib.hid hsl
  clear hn hA hsl
  go_enter Tryd.func11, Tryd.ntmps11
  go_upto_region 1 with fail
  obtain ⟨P, hPe⟩ : ∃ P, P = w.heap.size := ⟨_, rfl⟩
  rw [← hPe] at hH ⊢
  clear hPe
  generalize World.alloc _ _ = w1 at *
  have c0 := hH.kind
  have c8 : w1.cell? ⟨P, 38, none⟩ = some (.slice a n c) := by rw [hH.hs ho, HSL.out]
  have HM := Lib.hid hH
  clear hH
  go_upto_region 8 with fail
  go_loopw [43] (fun i wr => ∃ k : Nat, k ≤ n ∧ i = .int .i64 k ∧ Below w.heap.size w wr ∧ MmAt wr P m) (fun i _ => n - (intOf i).toNat)
  case atStart => exact ⟨0, by omega, rfl, hB, HM.out⟩
  case round =>
    obtain ⟨k, hk, rfl, hB2, hM2⟩ := hrel
    by_cases hlt : k < n
    · have hkl : k < hs.length := by rw [← HN.out]; exact hlt
      obtain ⟨ab, ao, rfl, habl, hc⟩ := (HA.out.below hB2) (by omega)
      have h1 := hc k hkl
      have KG := Lib.hid (fun w => rgood_at hs[k] h1.1 w)
      have hdd : decide hs[k].P = true := decide_eq_true (HG.out _ (List.getElem_mem hkl))
      rw [hdd] at KG
      clear hdd
      have s2 := hdC_length h1.1
      have s3 := hdA_size h1.1
      have q2 := h1.2
      generalize hs[k] = x at *
      clear h1 hc hkl c0 c8
      have hN := hd_newz wr
      have hz0 := hdA_size hdZ_ok
      go_upto_region 10 with (first
        | (with_reducible refine hd_load_mid rfl _ rfl ab (ao + k * 68) rfl x q2 s2 ?_)
        | (with_reducible refine hd_store rfl _ _ rfl wr.heap.size _ x rfl rfl rfl s3 hN hz0 ?_))
      obtain ⟨X, hX⟩ : ∃ X, X = wr.heap.size := ⟨_, rfl⟩
      generalize hw4 : World.setRow _ _ _ = w4
      have hN2 : HdAt w4 X x := by rw [← hw4, hX]; exact Has.row hN _
      have hBn : Below wr.heap.size wr w4 := by rw [← hw4]; exact below_setRow ((Below.refl _ _).alloc (Nat.le_refl _) _) (Nat.le_refl _) _
      rw [← hX]
      clear hN hX hw4 q2 s2
      go_wp2_with (with_reducible refine hd_load rfl _ rfl X rfl hN2 s3 ?_)
      refine (KG.out _).mono ?_
      rintro r w5 ⟨rfl, hb5⟩
      have hB5 := hB2.trans ((hBn.trans (hb5.mono hBn.size)).mono hB2.size)
      have hM5 := (hM2.on hBn).on hb5
      clear KG hN2 s3 hBn hb5
      go_wp2_with fail
      go_roundw
      case rel => exact ⟨k + 1, hlt, by go_num, hB5, hM5⟩
      case measure => simp [intOf]; omega
    · obtain rfl : k = n := by omega
      have c8' : wr.cell? ⟨P, 38, none⟩ = some (.slice a k c) := by rw [hM2.hs ho, HSL.out]
      clear c8 c0
      cases b2
      all_goals
        go_wp2_with fail
        go_ret
        exact ⟨rfl, hB2⟩
set_option maxRecDepth 100000 in
set_option maxHeartbeats 1600000 in
theorem rgb_4 (m : Mm) (ho : m.ok) (w : World) (a : Option Addr) (n c : Nat) (hsl : m.hs = ⟨a, n, c⟩) (hs : List Hd) (hn : n = hs.length) (hl : n ≤ 4611686018427387904) (hA : HeadersAt w a hs) (hg : ¬ ∀ x ∈ hs, x.P) (hk : m.kind = 4) :
    Calls Tryd.prog 11 #[.agg (mmA m)] w fun e w' => e = .returned (.bool false) ∧ Below w.heap.size w w' := by
  have t1 : (m.kind == 1) = false := by rw [hk]; rfl
  have t3 : (m.kind == 3) = false := by rw [hk]; rfl
  have t4 : (m.kind == 4) = true := by rw [hk]; rfl
  clear hk
  have hH := mm_new w m
  have hB : Below w.heap.size w (w.alloc (.cells (mmA m) 27)) := (Below.refl _ _).alloc (Nat.le_refl _) _
  obtain ⟨j, hj, hP, hbad⟩ := first_bad hs hg
  have HJ := Lib.hid hj
  have HP := Lib.hid hP
  have HBd := Lib.hid hbad
  have hjn : j < n := by omega
  clear hg hP hbad
  have HN := Lib.hid hn
  have HA := Lib.hid hA
  have HSL := Lib.hid hsl
  clear hn hA hsl
  go_enter Tryd.func11, Tryd.ntmps11
  go_upto_region 1 with fail
  obtain ⟨P, hPe⟩ : ∃ P, P = w.heap.size := ⟨_, rfl⟩
  rw [← hPe] at hH ⊢
  clear hPe
  generalize World.alloc _ _ = w1 at *
  have c0 := hH.kind
  have c8 : w1.cell? ⟨P, 38, none⟩ = some (.slice a n c) := by rw [hH.hs ho, HSL.out]
  have HM := Lib.hid hH
  clear hH
  go_upto_region 8 with fail
  go_loopw [43] (fun i wr => ∃ k : Nat, k ≤ j ∧ i = .int .i64 k ∧ Below w.heap.size w wr ∧ MmAt wr P m) (fun i _ => n - (intOf i).toNat)
  case atStart => exact ⟨0, by omega, rfl, hB, HM.out⟩
  case round =>
    obtain ⟨k, hk, rfl, hB2, hM2⟩ := hrel
    have hlt : k < n := by omega
    have hkl : k < hs.length := by rw [← HN.out]; exact hlt
    by_cases hkj : k < j
    · skip
      obtain ⟨ab, ao, rfl, habl, hc⟩ := (HA.out.below hB2) (by omega)
      have h1 := hc k hkl
      have KG := Lib.hid (fun w => rgood_at hs[k] h1.1 w)
      have hdd : decide hs[k].P = true := decide_eq_true (HP.out k hkl hkj)
      rw [hdd] at KG
      clear hdd
      have s2 := hdC_length h1.1
      have s3 := hdA_size h1.1
      have q2 := h1.2
      generalize hs[k] = x at *
      clear h1 hc hkl c0 c8
      have hN := hd_newz wr
      have hz0 := hdA_size hdZ_ok
      go_upto_region 10 with (first
        | (with_reducible refine hd_load_mid rfl _ rfl ab (ao + k * 68) rfl x q2 s2 ?_)
        | (with_reducible refine hd_store rfl _ _ rfl wr.heap.size _ x rfl rfl rfl s3 hN hz0 ?_))
      obtain ⟨X, hX⟩ : ∃ X, X = wr.heap.size := ⟨_, rfl⟩
      generalize hw4 : World.setRow _ _ _ = w4
      have hN2 : HdAt w4 X x := by rw [← hw4, hX]; exact Has.row hN _
      have hBn : Below wr.heap.size wr w4 := by rw [← hw4]; exact below_setRow ((Below.refl _ _).alloc (Nat.le_refl _) _) (Nat.le_refl _) _
      rw [← hX]
      clear hN hX hw4 q2 s2
      go_wp2_with (with_reducible refine hd_load rfl _ rfl X rfl hN2 s3 ?_)
      refine (KG.out _).mono ?_
      rintro r w5 ⟨rfl, hb5⟩
      have hB5 := hB2.trans ((hBn.trans (hb5.mono hBn.size)).mono hB2.size)
      have hM5 := (hM2.on hBn).on hb5
      clear KG hN2 s3 hBn hb5
      go_wp2_with fail
      go_roundw
      case rel => exact ⟨k + 1, hkj, by go_num, hB5, hM5⟩
      case measure => simp [intOf]; omega
    · obtain rfl : k = j := by omega
      obtain ⟨ab, ao, rfl, habl, hc⟩ := (HA.out.below hB2) (by omega)
      have h1 := hc k hkl
      have KG := Lib.hid (fun w => rgood_at hs[k] h1.1 w)
      have hdd : decide hs[k].P = false := decide_eq_false HBd.out
      rw [hdd] at KG
      clear hdd
      have s2 := hdC_length h1.1
      have s3 := hdA_size h1.1
      have q2 := h1.2
      generalize hs[k] = x at *
      clear h1 hc hkl c0 c8
      have hN := hd_newz wr
      have hz0 := hdA_size hdZ_ok
      go_upto_region 10 with (first
        | (with_reducible refine hd_load_mid rfl _ rfl ab (ao + k * 68) rfl x q2 s2 ?_)
        | (with_reducible refine hd_store rfl _ _ rfl wr.heap.size _ x rfl rfl rfl s3 hN hz0 ?_))
      obtain ⟨X, hX⟩ : ∃ X, X = wr.heap.size := ⟨_, rfl⟩
      generalize hw4 : World.setRow _ _ _ = w4
      have hN2 : HdAt w4 X x := by rw [← hw4, hX]; exact Has.row hN _
      have hBn : Below wr.heap.size wr w4 := by rw [← hw4]; exact below_setRow ((Below.refl _ _).alloc (Nat.le_refl _) _) (Nat.le_refl _) _
      rw [← hX]
      clear hN hX hw4 q2 s2
      go_wp2_with (with_reducible refine hd_load rfl _ rfl X rfl hN2 s3 ?_)
      refine (KG.out _).mono ?_
      rintro r w5 ⟨rfl, hb5⟩
      have hB5 := hB2.trans ((hBn.trans (hb5.mono hBn.size)).mono hB2.size)
      have hM5 := (hM2.on hBn).on hb5
      clear KG hN2 s3 hBn hb5
      go_wp2_with fail
      go_ret
      exact ⟨rfl, hB5⟩
theorem rgood8_at (m : Mm) (M : Ms) (w : World) (hL : Lies w m M) : Calls Tryd.prog 11 #[.agg (mmA m)] w fun e w' => e = .returned (.bool (decide M.P)) ∧ Below w.heap.size w w' := by
  have hk := hL.kind
  have hd : ∀ b : Bool, (b = true ↔ M.P) → decide M.P = b := fun b h => by
    cases b
    · exact decide_eq_false (fun hp => by have := h.2 hp; cases this)
    · exact decide_eq_true (h.1 rfl)
  by_cases h1 : M.kind = 1
  · have hPe : M.P ↔ (in4 M.ver ∧ in4 M.height ∧ in7 M.serv ∧ in7 M.nb) := by unfold Ms.P; rw [if_pos h1]
    replace hd := fun (b : Bool) (h : b = true ↔ (in4 M.ver ∧ in4 M.height ∧ in7 M.serv ∧ in7 M.nb)) => hd b (h.trans hPe.symm)
    rw [hd (inB m.ver 4 && inB m.height 4 && inB m.serv 7 && inB m.nb 7) (by
      rw [inB4, inB4, inB7, inB7, hL.ver, hL.height, hL.serv, hL.nb]
      simp only [Bool.and_eq_true, decide_eq_true_eq, and_assoc])]
    exact rg_1 m w _ _ _ _ rfl rfl rfl rfl (by rw [hk, h1])
  by_cases h3 : M.kind = 3
  · have hPe : M.P ↔ (in4 M.ver ∧ M.names.length ≤ 32) := by unfold Ms.P; rw [if_neg h1, if_pos h3]
    replace hd := fun (b : Bool) (h : b = true ↔ (in4 M.ver ∧ M.names.length ≤ 32)) => hd b (h.trans hPe.symm)
    rw [hd (inB m.ver 4 && decide ((m.ns.n : Int) ≤ 32)) (by
      rw [inB4, hL.ver, hL.n1]
      simp only [Bool.and_eq_true, decide_eq_true_eq]
      constructor
      · rintro ⟨q1, q2⟩; exact ⟨q1, by omega⟩
      · rintro ⟨q1, q2⟩; exact ⟨q1, by omega⟩)]
    exact rg_3 m w _ _ rfl rfl (by rw [hk, h3])
  by_cases h4 : M.kind = 4
  · have hPe : M.P ↔ ((∀ h ∈ M.heads, h.P) ∧ M.heads.length ≤ 64) := by unfold Ms.P; rw [if_neg h1, if_neg h3, if_pos h4]
    replace hd := fun (b : Bool) (h : b = true ↔ ((∀ h ∈ M.heads, h.P) ∧ M.heads.length ≤ 64)) => hd b (h.trans hPe.symm)
    by_cases hg : ∀ x ∈ M.heads, x.P
    · rw [hd (decide ((m.hs.n : Int) ≤ 64)) (by
        rw [hL.n2]
        simp only [decide_eq_true_eq]
        constructor
        · intro q; exact ⟨hg, by omega⟩
        · intro q; have := q.2; omega)]
      exact rga_4 m hL.mok w m.hs.a m.hs.n m.hs.c rfl M.heads hL.n2 hL.l2 hL.heads hg _ rfl (by rw [hk, h4])
    · rw [hd false (by
        constructor
        · intro q; cases q
        · intro q; exact absurd q.1 hg)]
      exact rgb_4 m hL.mok w m.hs.a m.hs.n m.hs.c rfl M.heads hL.n2 hL.l2 hL.heads hg (by rw [hk, h4])
  by_cases h5 : M.kind = 5
  · have hPe : M.P ↔ (M.names.length ≤ 32) := by unfold Ms.P; rw [if_neg h1, if_neg h3, if_neg h4, if_pos h5]
    replace hd := fun (b : Bool) (h : b = true ↔ (M.names.length ≤ 32)) => hd b (h.trans hPe.symm)
    rw [hd (decide ((m.ns.n : Int) ≤ 32)) (by
      rw [hL.n1]
      simp only [decide_eq_true_eq]
      omega)]
    exact rg_5 m w _ rfl (by rw [hk, h5])
  by_cases h6 : M.kind = 6
  · have hPe : M.P ↔ (in7 M.nb) := by unfold Ms.P; rw [if_neg h1, if_neg h3, if_neg h4, if_neg h5, if_pos (show M.kind = 6 ∨ M.kind = 7 from .inl h6)]
    replace hd := fun (b : Bool) (h : b = true ↔ (in7 M.nb)) => hd b (h.trans hPe.symm)
    rw [hd (inB m.nb 7) (by rw [inB7, hL.nb]; simp only [decide_eq_true_eq])]
    exact rg_6 m w _ rfl (by rw [hk, h6])
  by_cases h7 : M.kind = 7
  · have hPe : M.P ↔ (in7 M.nb) := by unfold Ms.P; rw [if_neg h1, if_neg h3, if_neg h4, if_neg h5, if_pos (show M.kind = 6 ∨ M.kind = 7 from .inr h7)]
    replace hd := fun (b : Bool) (h : b = true ↔ (in7 M.nb)) => hd b (h.trans hPe.symm)
    rw [hd (inB m.nb 7) (by rw [inB7, hL.nb]; simp only [decide_eq_true_eq])]
    exact rg_7 m w _ rfl (by rw [hk, h7])
  have hPe : M.P ↔ (M.kind = 2 ∨ M.kind = 8) := by unfold Ms.P; rw [if_neg h1, if_neg h3, if_neg h4, if_neg h5, if_neg (show ¬ (M.kind = 6 ∨ M.kind = 7) from fun h => h.elim h6 h7)]
  replace hd := fun (b : Bool) (h : b = true ↔ (M.kind = 2 ∨ M.kind = 8)) => hd b (h.trans hPe.symm)
  rw [hd (m.kind == 2 || m.kind == 8) (by
    rw [hk]
    simp only [Bool.or_eq_true, beq_iff_eq])]
  exact rg_0 m w _ _ rfl rfl (by rw [hk]; exact h1) (by rw [hk]; exact h3) (by rw [hk]; exact h4) (by rw [hk]; exact h5) (by rw [hk]; exact h6) (by rw [hk]; exact h7)
end Go.Proofs.YtmpllagaeoolaaaDoor
/-
  The reference of layer 8: Payload.
-/
namespace Go.Proofs.YtmpllagaeoolaaaDoor
open Go.RowKit Mem Sc
set_option maxRecDepth 100000 in
set_option maxHeartbeats 1600000 in
theorem rp_0 (m : Mm) (w : World) (h1 : m.kind ≠ 1) (h3 : m.kind ≠ 3) (h4 : m.kind ≠ 4) (h5 : m.kind ≠ 5) (h6 : m.kind ≠ 6) (h7 : m.kind ≠ 7) :
    Calls Tryd.prog 14 #[.agg (mmA m)] w fun e w' => e = .returned (.string E0) ∧ Below w.heap.size w w' := by
  have t1 : (m.kind == 1) = false := beq_eq_false_iff_ne.2 h1
  have t3 : (m.kind == 3) = false := beq_eq_false_iff_ne.2 h3
  have t4 : (m.kind == 4) = false := beq_eq_false_iff_ne.2 h4
  have t5 : (m.kind == 5) = false := beq_eq_false_iff_ne.2 h5
  have t6 : (m.kind == 6) = false := beq_eq_false_iff_ne.2 h6
  have t7 : (m.kind == 7) = false := beq_eq_false_iff_ne.2 h7
  clear h1 h3 h4 h5 h6 h7
  have hH := mm_new w m
  have hB : Below w.heap.size w (w.alloc (.cells (mmA m) 27)) := (Below.refl _ _).alloc (Nat.le_refl _) _
  go_enter Tryd.func14, Tryd.ntmps14
  go_upto_region 1 with fail
  obtain ⟨P, hPe⟩ : ∃ P, P = w.heap.size := ⟨_, rfl⟩
  rw [← hPe] at hH ⊢
  clear hPe
  generalize World.alloc _ _ = w1 at *
  have c0 := hH.kind
  go_wp2_with fail
  go_ret
  exact ⟨rfl, hB⟩
set_option maxRecDepth 100000 in
set_option maxHeartbeats 1600000 in
theorem rp_6 (m : Mm) (w : World) (hk : m.kind = 6) :
    Calls Tryd.prog 14 #[.agg (mmA m)] w fun e w' => e = .returned (.string (txt (num 7 m.nb))) ∧ Below w.heap.size w w' := by
  have t1 : (m.kind == 1) = false := by rw [hk]; rfl
  have t3 : (m.kind == 3) = false := by rw [hk]; rfl
  have t4 : (m.kind == 4) = false := by rw [hk]; rfl
  have t5 : (m.kind == 5) = false := by rw [hk]; rfl
  have t6 : (m.kind == 6) = true := by rw [hk]; rfl
  clear hk
  have hH := mm_new w m
  have hB : Below w.heap.size w (w.alloc (.cells (mmA m) 27)) := (Below.refl _ _).alloc (Nat.le_refl _) _
  have N1 := Lib.hid (fun w => rnumber 7 m.nb w)
  rw [show near 7 8 = 7 from rfl] at N1
  generalize txt (num 7 m.nb) = s at *
  go_enter Tryd.func14, Tryd.ntmps14
  go_upto_region 1 with fail
  obtain ⟨P, hPe⟩ : ∃ P, P = w.heap.size := ⟨_, rfl⟩
  rw [← hPe] at hH ⊢
  clear hPe
  generalize World.alloc _ _ = w1 at *
  have c0 := hH.kind
  have c4 := hH.nb
  go_wp2_with fail
  refine (N1.out _).mono ?_
  rintro r w2 ⟨rfl, hb2⟩
  go_wp2_with fail
  go_ret
  exact ⟨rfl, hB.trans (hb2.mono hB.size)⟩
set_option maxRecDepth 100000 in
set_option maxHeartbeats 1600000 in
theorem rp_7 (m : Mm) (w : World) (hk : m.kind = 7) :
    Calls Tryd.prog 14 #[.agg (mmA m)] w fun e w' => e = .returned (.string (txt (num 7 m.nb))) ∧ Below w.heap.size w w' := by
  have t1 : (m.kind == 1) = false := by rw [hk]; rfl
  have t3 : (m.kind == 3) = false := by rw [hk]; rfl
  have t4 : (m.kind == 4) = false := by rw [hk]; rfl
  have t5 : (m.kind == 5) = false := by rw [hk]; rfl
  have t6 : (m.kind == 6) = false := by rw [hk]; rfl
  have t7 : (m.kind == 7) = true := by rw [hk]; rfl
  clear hk
  have hH := mm_new w m
  have hB : Below w.heap.size w (w.alloc (.cells (mmA m) 27)) := (Below.refl _ _).alloc (Nat.le_refl _) _
  have N1 := Lib.hid (fun w => rnumber 7 m.nb w)
  rw [show near 7 8 = 7 from rfl] at N1
  generalize txt (num 7 m.nb) = s at *
  go_enter Tryd.func14, Tryd.ntmps14
  go_upto_region 1 with fail
  obtain ⟨P, hPe⟩ : ∃ P, P = w.heap.size := ⟨_, rfl⟩
  rw [← hPe] at hH ⊢
  clear hPe
  generalize World.alloc _ _ = w1 at *
  have c0 := hH.kind
  have c4 := hH.nb
  go_wp2_with fail
  refine (N1.out _).mono ?_
  rintro r w2 ⟨rfl, hb2⟩
  go_wp2_with fail
  go_ret
  exact ⟨rfl, hB.trans (hb2.mono hB.size)⟩
set_option maxRecDepth 100000 in
set_option maxHeartbeats 1600000 in
theorem rp_1 (m : Mm) (w : World) (hk : m.kind = 1) :
    Calls Tryd.prog 14 #[.agg (mmA m)] w fun e w' => e = .returned (.string (txt (num 4 m.ver) ++ txt (num 4 m.height) ++ txt (num 7 m.serv) ++ txt (num 7 m.nb))) ∧ Below w.heap.size w w' := by
  have t1 : (m.kind == 1) = true := by rw [hk]; rfl
  clear hk
  have hH := mm_new w m
  have hB : Below w.heap.size w (w.alloc (.cells (mmA m) 27)) := (Below.refl _ _).alloc (Nat.le_refl _) _
  have N1 := Lib.hid (fun w => rnumber 4 m.ver w)
  rw [show near 4 8 = 4 from rfl] at N1
  have z1 : (txt (num 4 m.ver)).size ≤ 4 := by rw [txt_size, num_length]; omega
  have N2 := Lib.hid (fun w => rnumber 4 m.height w)
  rw [show near 4 8 = 4 from rfl] at N2
  have z2 : (txt (num 4 m.height)).size ≤ 4 := by rw [txt_size, num_length]; omega
  have N3 := Lib.hid (fun w => rnumber 7 m.serv w)
  rw [show near 7 8 = 7 from rfl] at N3
  have z3 : (txt (num 7 m.serv)).size ≤ 7 := by rw [txt_size, num_length]; omega
  have N4 := Lib.hid (fun w => rnumber 7 m.nb w)
  rw [show near 7 8 = 7 from rfl] at N4
  have z4 : (txt (num 7 m.nb)).size ≤ 7 := by rw [txt_size, num_length]; omega
  generalize txt (num 4 m.ver) = s1 at *
  generalize txt (num 4 m.height) = s2 at *
  generalize txt (num 7 m.serv) = s3 at *
  generalize txt (num 7 m.nb) = s4 at *
  go_enter Tryd.func14, Tryd.ntmps14
  go_upto_region 1 with fail
  obtain ⟨P, hPe⟩ : ∃ P, P = w.heap.size := ⟨_, rfl⟩
  rw [← hPe] at hH ⊢
  clear hPe
  generalize World.alloc _ _ = w1 at *
  have c0 := hH.kind
  go_upto_region 4 with fail
  have q1 : ∀ d os, (Sort.grow (redrawn w1 d) os).cell? ⟨P, 1, none⟩ = some (.int .i64 m.ver) := cell_regrown hH.ver
  have q3 : ∀ d os, (Sort.grow (redrawn w1 d) os).cell? ⟨P, 3, none⟩ = some (.int .i64 m.height) := cell_regrown hH.height
  have q2 : ∀ d os, (Sort.grow (redrawn w1 d) os).cell? ⟨P, 2, none⟩ = some (.int .i64 m.serv) := cell_regrown hH.serv
  have q4 : ∀ d os, (Sort.grow (redrawn w1 d) os).cell? ⟨P, 4, none⟩ = some (.int .i64 m.nb) := cell_regrown hH.nb
  refine wp_region_quiet_below (by kernel_rfl) (by kernel_rfl) ?_
  repeat (go_big_quiet_step ((go_at_call 31; first | (with_reducible exact Calls.regrown_of (N1.out _)) | (with_reducible exact Calls.regrown_of (N2.out _)) | (with_reducible exact Calls.regrown_of (N3.out _)) | (with_reducible exact Calls.regrown_of (N4.out _)))))
  refine wpQuiet_nil ?_
  intro _ hw'
  obtain ⟨p, hw''⟩ := hw'
  subst hw''
  have hb2 := below_regrown w1 p.d p.os
  have hB3 := hB.trans (hb2.mono hB.size)
  clear q1 q2 q3 q4
  generalize Sort.grow (redrawn w1 p.d) p.os = w9 at *
  go_wp2_with fail
  go_ret
  exact ⟨rfl, hB3⟩
set_option maxRecDepth 100000 in
set_option maxHeartbeats 1600000 in
theorem rp_4 (m : Mm) (ho : m.ok) (w : World) (a : Option Addr) (n c : Nat) (hsl : m.hs = ⟨a, n, c⟩) (hs : List Hd) (hn : n = hs.length) (hl : n ≤ 64) (hA : HeadersAt w a hs) (h32 : ∀ x ∈ hs, x.ok) (hk : m.kind = 4) :
    Calls Tryd.prog 14 #[.agg (mmA m)] w fun e w' => e = .returned (.string (txt (cnt (hs.length : Nat) ++ hs.flatMap hd0L))) ∧ Below w.heap.size w w' := by
  have t1 : (m.kind == 1) = false := by rw [hk]; rfl
  have t3 : (m.kind == 3) = false := by rw [hk]; rfl
  have t4 : (m.kind == 4) = true := by rw [hk]; rfl
  clear hk
  have hH := mm_new w m
  have hB : Below w.heap.size w (w.alloc (.cells (mmA m) 27)) := (Below.refl _ _).alloc (Nat.le_refl _) _
  have HN := Lib.hid hn
  have HA := Lib.hid hA
  have HK := Lib.hid h32
  have HSL := Lib.hid hsl
  have N1 := Lib.hid (fun w => rcount (n : Nat) w)
  have l0len := (cnt_length (n : Nat)).2
  rw [show cnt ((hs.length : Nat) : Int) = cnt ((n : Nat) : Int) by rw [hn]]
  clear hn hA h32 hsl
  generalize cnt ((n : Nat) : Int) = l0 at *
  go_enter Tryd.func14, Tryd.ntmps14
  go_upto_region 1 with fail
  obtain ⟨P, hPe⟩ : ∃ P, P = w.heap.size := ⟨_, rfl⟩
  rw [← hPe] at hH ⊢
  clear hPe
  generalize World.alloc _ _ = w1 at *
  have c0 := hH.kind
  have c8 : w1.cell? ⟨P, 38, none⟩ = some (.slice a n c) := by rw [hH.hs ho, HSL.out]
  go_wp2_with fail
  refine (N1.out _).mono ?_
  rintro r w2 ⟨rfl, hb2⟩
  replace hH := hH.on hb2
  replace hB := hB.trans (hb2.mono hB.size)
  clear c8 hb2 N1
  have c8 : w2.cell? ⟨P, 38, none⟩ = some (.slice a n c) := by rw [hH.hs ho, HSL.out]
  have HM := Lib.hid hH
  clear hH
  go_upto_region 16 with fail
  go_loopw [3, 65] (fun s i wr => ∃ k : Nat, k ≤ n ∧ s = .string (txt (l0 ++ (hs.take k).flatMap hd0L)) ∧ i = .int .i64 k ∧ Below w.heap.size w wr ∧ MmAt wr P m) (fun _ i _ => n - (intOf i).toNat)
  case atStart => exact ⟨0, by omega, by rw [List.take_zero, List.flatMap_nil, List.append_nil], rfl, hB, HM.out⟩
  case round =>
    obtain ⟨k, hk, rfl, rfl, hB2, hM2⟩ := hrel
    by_cases hlt : k < n
    · have hkl : k < hs.length := by rw [← HN.out]; exact hlt
      obtain ⟨ab, ao, rfl, habl, hc⟩ := (HA.out.below hB2) (by omega)
      have h1 := hc k hkl
      have hnext := fmap_next hd0L hs k hkl
      have hle := fmap_le hd0L 81 hs (fun x hx => by unfold hd0L; rw [List.length_append, Hd.enc_length (HK.out x hx)]; rfl) k
      have zs : (txt (l0 ++ (hs.take k).flatMap hd0L)).size ≤ 100000 := by rw [txt_size, List.length_append]; have := l0len; omega
      have q2 := h1.2
      have s2 := hdC_length h1.1
      have s3 := hdA_size h1.1
      have hxo := h1.1
      have KN := Lib.hid (fun w => rbytes hs[k] hxo w)
      have zx : (txt hs[k].enc).size ≤ 80 := by rw [txt_size, Hd.enc_length hxo]; omega
      generalize hs[k] = x at *
      have HNX : Hid (txt (l0 ++ (hs.take k).flatMap hd0L) ++ txt x.enc ++ ⟨#[0]⟩ = txt (l0 ++ (hs.take (k + 1)).flatMap hd0L)) := Lib.hid (by
        rw [hnext]; rw [show (⟨#[0]⟩ : ByteArray) = txt [0] from rfl, txt_append, txt_append]; simp only [hd0L, List.append_assoc])
      generalize txt x.enc = tx at *
      generalize txt (l0 ++ (hs.take k).flatMap hd0L) = s at *
      clear h1 hc hkl hnext hle hxo c0 c8
      have hN := hd_newz wr
      have hz0 := hdA_size hdZ_ok
      go_upto_region 18 with (first
        | (with_reducible refine hd_load_mid rfl _ rfl ab (ao + k * 68) rfl x q2 s2 ?_)
        | (with_reducible refine hd_store rfl _ _ rfl wr.heap.size _ x rfl rfl rfl s3 hN hz0 ?_))
      obtain ⟨X, hX⟩ : ∃ X, X = wr.heap.size := ⟨_, rfl⟩
      generalize hw4 : World.setRow _ _ _ = w4
      have hX4 : HdAt w4 X x := by rw [← hw4, hX]; exact Has.row hN _
      have hBn : Below wr.heap.size wr w4 := by rw [← hw4]; exact below_setRow ((Below.refl _ _).alloc (Nat.le_refl _) _) (Nat.le_refl _) _
      rw [← hX]
      clear hN hX hw4 q2 s2
      go_wp2_with (with_reducible refine hd_load rfl _ rfl X rfl hX4 s3 ?_)
      refine (KN.out _).mono ?_
      rintro r w5 ⟨rfl, hb5⟩
      have hB5 := hB2.trans ((hBn.trans (hb5.mono hBn.size)).mono hB2.size)
      have hM5 := (hM2.on hBn).on hb5
      clear KN hX4 hBn hb5 hB2 hM2 s3
      go_wp2_with fail
      go_roundw
      case rel => exact ⟨k + 1, hlt, congrArg Value.string HNX.out, by go_num, hB5, hM5⟩
      case measure => simp [intOf]; omega
    · obtain rfl : k = n := by omega
      have HT : Hid (hs.take k = hs) := Lib.hid (List.take_of_length_le (by rw [HN.out]; exact Nat.le_refl _))
      rw [HT.out]
      generalize hS : txt (l0 ++ hs.flatMap hd0L) = s at *
      have HSS := Lib.hid hS
      clear hS
      go_wp2_with fail
      go_ret
      exact ⟨congrArg (fun z => Ending.returned (Value.string z)) HSS.out.symm, hB2⟩
set_option maxRecDepth 100000 in
set_option maxHeartbeats 1600000 in
theorem rp_5 (m : Mm) (w : World) (a : Option Addr) (n c : Nat) (hsl : m.ns = ⟨a, n, c⟩) (ls : List (List UInt8)) (hn : n = ls.length) (hl : n ≤ 64) (hA : NamesAt w a ls) (h32 : ∀ x ∈ ls, x.length = 32) (hk : m.kind = 5) :
    Calls Tryd.prog 14 #[.agg (mmA m)] w fun e w' => e = .returned (.string (txt (cnt (ls.length : Nat) ++ ls.flatMap blkL))) ∧ Below w.heap.size w w' := by
  have t1 : (m.kind == 1) = false := by rw [hk]; rfl
  have t3 : (m.kind == 3) = false := by rw [hk]; rfl
  have t4 : (m.kind == 4) = false := by rw [hk]; rfl
  have t5 : (m.kind == 5) = true := by rw [hk]; rfl
  clear hk
  have hH := mm_new w m
  have hB : Below w.heap.size w (w.alloc (.cells (mmA m) 27)) := (Below.refl _ _).alloc (Nat.le_refl _) _
  have HN := Lib.hid hn
  have HA := Lib.hid hA
  have HK := Lib.hid h32
  have HSL := Lib.hid hsl
  have N1 := Lib.hid (fun w => rcount (n : Nat) w)
  have l0len := (cnt_length (n : Nat)).2
  rw [show cnt ((ls.length : Nat) : Int) = cnt ((n : Nat) : Int) by rw [hn]]
  clear hn hA h32 hsl
  generalize cnt ((n : Nat) : Int) = l0 at *
  go_enter Tryd.func14, Tryd.ntmps14
  go_upto_region 1 with fail
  obtain ⟨P, hPe⟩ : ∃ P, P = w.heap.size := ⟨_, rfl⟩
  rw [← hPe] at hH ⊢
  clear hPe
  generalize World.alloc _ _ = w1 at *
  have c0 := hH.kind
  have c8 : w1.cell? ⟨P, 5, none⟩ = some (.slice a n c) := by rw [hH.ns, HSL.out]
  go_wp2_with fail
  refine (N1.out _).mono ?_
  rintro r w2 ⟨rfl, hb2⟩
  replace hH := hH.on hb2
  replace hB := hB.trans (hb2.mono hB.size)
  clear c8 hb2 N1
  have c8 : w2.cell? ⟨P, 5, none⟩ = some (.slice a n c) := by rw [hH.ns, HSL.out]
  have HM := Lib.hid hH
  clear hH
  go_upto_region 23 with fail
  go_loopw [3, 84] (fun s i wr => ∃ k : Nat, k ≤ n ∧ s = .string (txt (l0 ++ (ls.take k).flatMap blkL)) ∧ i = .int .i64 k ∧ Below w.heap.size w wr ∧ MmAt wr P m) (fun _ i _ => n - (intOf i).toNat)
  case atStart => exact ⟨0, by omega, by rw [List.take_zero, List.flatMap_nil, List.append_nil], rfl, hB, HM.out⟩
  case round =>
    obtain ⟨k, hk, rfl, rfl, hB2, hM2⟩ := hrel
    by_cases hlt : k < n
    · have hkl : k < ls.length := by rw [← HN.out]; exact hlt
      obtain ⟨ab, ao, rfl, habl, hc⟩ := (HA.out.below hB2) (by omega)
      have h1 := hc k hkl
      have hnext := fmap_next blkL ls k hkl
      have hle := fmap_le blkL 36 ls (fun x hx => by unfold blkL; rw [List.length_append, num_length, HK.out x hx]) k
      have zs : (txt (l0 ++ (ls.take k).flatMap blkL)).size ≤ 100000 := by rw [txt_size, List.length_append]; have := l0len; omega
      have q2 := h1.2
      have s2 := byteCells_32 h1.1
      have HS3 := Lib.hid (hv_size h1.1)
      have hxo := h1.1
      have KN := Lib.hid (fun w => rname ls[k] hxo w)
      have zx : (txt ls[k]).size ≤ 32 := by rw [txt_size, hxo]; omega
      generalize ls[k] = x at *
      have HNX : Hid (txt (l0 ++ (ls.take k).flatMap blkL) ++ ⟨#[2, 0, 0, 0]⟩ ++ txt x = txt (l0 ++ (ls.take (k + 1)).flatMap blkL)) := Lib.hid (by
        rw [hnext]; rw [show (⟨#[2, 0, 0, 0]⟩ : ByteArray) = txt (num 4 2) by decide +kernel, txt_append, txt_append]; simp only [blkL, List.append_assoc])
      have hone := bytesV_one x
      generalize txt x = tx at *
      generalize txt (l0 ++ (ls.take k).flatMap blkL) = s at *
      clear h1 hc hkl hnext hle hxo c0 c8
      have hN := h0_new wr 24
      have hz0 : h0.size = 32 := rfl
      have HZ := Lib.hid hz0
      clear hz0
      go_upto_region 25 with (first
        | (with_reducible refine hl_load_mid rfl _ rfl ab (ao + k * 32) rfl x q2 s2 ?_)
        | (with_reducible refine hl_store rfl _ _ rfl wr.heap.size _ (bytesV x) rfl rfl rfl HS3.out hone h0 hN HZ.out ?_))
      obtain ⟨X, hX⟩ : ∃ X, X = wr.heap.size := ⟨_, rfl⟩
      generalize hw4 : World.setRow _ _ _ = w4
      have hX4 : Has w4 X (bytesV x) 24 := by rw [← hw4, hX]; exact hN.row _
      have hBn : Below wr.heap.size wr w4 := by rw [← hw4]; exact below_setRow ((Below.refl _ _).alloc (Nat.le_refl _) _) (Nat.le_refl _) _
      rw [← hX]
      clear hN hX hw4 q2 s2
      go_wp2_with (with_reducible refine hl_load rfl _ rfl X rfl (bytesV x) hX4 HS3.out ?_)
      refine (KN.out _).mono ?_
      rintro r w5 ⟨rfl, hb5⟩
      have hB5 := hB2.trans ((hBn.trans (hb5.mono hBn.size)).mono hB2.size)
      have hM5 := (hM2.on hBn).on hb5
      clear KN hX4 hBn hb5 hB2 hM2
      go_wp2_with fail
      go_roundw
      case rel => exact ⟨k + 1, hlt, congrArg Value.string HNX.out, by go_num, hB5, hM5⟩
      case measure => simp [intOf]; omega
    · obtain rfl : k = n := by omega
      have HT : Hid (ls.take k = ls) := Lib.hid (List.take_of_length_le (by rw [HN.out]; exact Nat.le_refl _))
      rw [HT.out]
      generalize hS : txt (l0 ++ ls.flatMap blkL) = s at *
      have HSS := Lib.hid hS
      clear hS
      go_wp2_with fail
      go_ret
      exact ⟨congrArg (fun z => Ending.returned (Value.string z)) HSS.out.symm, hB2⟩
set_option maxRecDepth 100000 in
set_option maxHeartbeats 1600000 in
theorem rp_3 (m : Mm) (ho : m.ok) (w : World) (a : Option Addr) (n c : Nat) (hsl : m.ns = ⟨a, n, c⟩) (ls : List (List UInt8)) (hn : n = ls.length) (hl : n ≤ 32) (hA : NamesAt w a ls) (h32 : ∀ x ∈ ls, x.length = 32) (hk : m.kind = 3) :
    Calls Tryd.prog 14 #[.agg (mmA m)] w fun e w' => e = .returned (.string (txt (num 4 m.ver ++ cnt (ls.length : Nat) ++ ls.flatMap nameL ++ m.stop))) ∧ Below w.heap.size w w' := by
  have t1 : (m.kind == 1) = false := by rw [hk]; rfl
  have t3 : (m.kind == 3) = true := by rw [hk]; rfl
  clear hk
  have hH := mm_new w m
  have hB : Below w.heap.size w (w.alloc (.cells (mmA m) 27)) := (Below.refl _ _).alloc (Nat.le_refl _) _
  have HN := Lib.hid hn
  have HA := Lib.hid hA
  have HK := Lib.hid h32
  have HSL := Lib.hid hsl
  have N1 := Lib.hid (fun w => rnumber 4 m.ver w)
  rw [show near 4 8 = 4 from rfl] at N1
  have N2 := Lib.hid (fun w => rcount (n : Nat) w)
  have N3 := Lib.hid (fun w => rname m.stop ho w)
  have z1 : (txt (num 4 m.ver)).size ≤ 4 := by rw [txt_size, num_length]; omega
  have z2 : (txt (cnt (n : Nat))).size ≤ 9 := by rw [txt_size]; exact (cnt_length (n : Nat)).2
  have l0len : (num 4 m.ver ++ cnt (n : Nat)).length ≤ 13 := by have := (cnt_length (n : Nat)).2; rw [List.length_append, num_length]; omega
  have HE : Hid (txt (num 4 m.ver) ++ txt (cnt (n : Nat)) = txt (num 4 m.ver ++ cnt (n : Nat))) := Lib.hid (txt_append _ _)
  rw [show cnt ((ls.length : Nat) : Int) = cnt ((n : Nat) : Int) by rw [hn]]
  clear hn hA h32 hsl
  generalize num 4 m.ver ++ cnt ((n : Nat) : Int) = l0 at *
  generalize txt (num 4 m.ver) = s1 at *
  generalize txt (cnt ((n : Nat) : Int)) = s2' at *
  go_enter Tryd.func14, Tryd.ntmps14
  go_upto_region 1 with fail
  obtain ⟨P, hPe⟩ : ∃ P, P = w.heap.size := ⟨_, rfl⟩
  rw [← hPe] at hH ⊢
  clear hPe
  generalize World.alloc _ _ = w1 at *
  have c0 := hH.kind
  have c8 : w1.cell? ⟨P, 5, none⟩ = some (.slice a n c) := by rw [hH.ns, HSL.out]
  go_upto_region 6 with fail
  have q1 : ∀ d os, (Sort.grow (redrawn w1 d) os).cell? ⟨P, 1, none⟩ = some (.int .i64 m.ver) := cell_regrown hH.ver
  have q5 : ∀ d os, (Sort.grow (redrawn w1 d) os).cell? ⟨P, 5, none⟩ = some (.slice a n c) := cell_regrown c8
  refine wp_region_quiet_below (by kernel_rfl) (by kernel_rfl) ?_
  repeat (go_big_quiet_step (first | (go_at_call 31; (with_reducible exact Calls.regrown_of (N1.out _))) | (go_at_call 32; (with_reducible exact Calls.regrown_of (N2.out _)))))
  refine wpQuiet_nil ?_
  intro _ hw'
  obtain ⟨p, hw''⟩ := hw'
  subst hw''
  have hb2 := below_regrown w1 p.d p.os
  replace hH := hH.on hb2
  replace hB := hB.trans (hb2.mono hB.size)
  clear q1 q5 c8 c0 hb2 N1 N2
  generalize Sort.grow (redrawn w1 p.d) p.os = w2 at *
  rw [HE.out]
  clear z1 z2
  have c8 : w2.cell? ⟨P, 5, none⟩ = some (.slice a n c) := by rw [hH.ns, HSL.out]
  have HM := Lib.hid hH
  clear hH
  go_upto_region 8 with fail
  go_loopw [3, 42] (fun s i wr => ∃ k : Nat, k ≤ n ∧ s = .string (txt (l0 ++ (ls.take k).flatMap nameL)) ∧ i = .int .i64 k ∧ Below w.heap.size w wr ∧ MmAt wr P m) (fun _ i _ => n - (intOf i).toNat)
  case atStart => exact ⟨0, by omega, by rw [List.take_zero, List.flatMap_nil, List.append_nil], rfl, hB, HM.out⟩
  case round =>
    obtain ⟨k, hk, rfl, rfl, hB2, hM2⟩ := hrel
    by_cases hlt : k < n
    · have hkl : k < ls.length := by rw [← HN.out]; exact hlt
      obtain ⟨ab, ao, rfl, habl, hc⟩ := (HA.out.below hB2) (by omega)
      have h1 := hc k hkl
      have hnext := fmap_next nameL ls k hkl
      have hle := fmap_le nameL 32 ls (fun x hx => by unfold nameL; rw [HK.out x hx]) k
      have zs : (txt (l0 ++ (ls.take k).flatMap nameL)).size ≤ 100000 := by rw [txt_size, List.length_append]; have := l0len; omega
      have q2 := h1.2
      have s2 := byteCells_32 h1.1
      have HS3 := Lib.hid (hv_size h1.1)
      have hxo := h1.1
      have KN := Lib.hid (fun w => rname ls[k] hxo w)
      have zx : (txt ls[k]).size ≤ 32 := by rw [txt_size, hxo]; omega
      generalize ls[k] = x at *
      have HNX : Hid (txt (l0 ++ (ls.take k).flatMap nameL) ++ txt x = txt (l0 ++ (ls.take (k + 1)).flatMap nameL)) := Lib.hid (by
        rw [hnext]; rw [txt_append]; simp only [nameL, List.append_assoc])
      have hone := bytesV_one x
      generalize txt x = tx at *
      generalize txt (l0 ++ (ls.take k).flatMap nameL) = s at *
      clear h1 hc hkl hnext hle hxo c8
      have hN := h0_new wr 24
      have hz0 : h0.size = 32 := rfl
      have HZ := Lib.hid hz0
      clear hz0
      go_upto_region 10 with (first
        | (with_reducible refine hl_load_mid rfl _ rfl ab (ao + k * 32) rfl x q2 s2 ?_)
        | (with_reducible refine hl_store rfl _ _ rfl wr.heap.size _ (bytesV x) rfl rfl rfl HS3.out hone h0 hN HZ.out ?_))
      obtain ⟨X, hX⟩ : ∃ X, X = wr.heap.size := ⟨_, rfl⟩
      generalize hw4 : World.setRow _ _ _ = w4
      have hX4 : Has w4 X (bytesV x) 24 := by rw [← hw4, hX]; exact hN.row _
      have hBn : Below wr.heap.size wr w4 := by rw [← hw4]; exact below_setRow ((Below.refl _ _).alloc (Nat.le_refl _) _) (Nat.le_refl _) _
      rw [← hX]
      clear hN hX hw4 q2 s2
      go_wp2_with (with_reducible refine hl_load rfl _ rfl X rfl (bytesV x) hX4 HS3.out ?_)
      refine (KN.out _).mono ?_
      rintro r w5 ⟨rfl, hb5⟩
      have hB5 := hB2.trans ((hBn.trans (hb5.mono hBn.size)).mono hB2.size)
      have hM5 := (hM2.on hBn).on hb5
      clear KN hX4 hBn hb5 hB2 hM2
      go_wp2_with fail
      go_roundw
      case rel => exact ⟨k + 1, hlt, congrArg Value.string HNX.out, by go_num, hB5, hM5⟩
      case measure => simp [intOf]; omega
    · obtain rfl : k = n := by omega
      have HT : Hid (ls.take k = ls) := Lib.hid (List.take_of_length_le (by rw [HN.out]; exact Nat.le_refl _))
      have hle := fmap_len nameL 32 ls (fun x hx => HK.out x hx)
      have hn' : ls.length = k := HN.out.symm
      have zs : (txt (l0 ++ ls.flatMap nameL)).size ≤ 100000 := by rw [txt_size, List.length_append]; have := l0len; omega
      have zx : (txt m.stop).size ≤ 32 := by rw [txt_size]; exact Nat.le_of_eq ho
      have HE2 : Hid (txt (l0 ++ ls.flatMap nameL) ++ txt m.stop = txt (l0 ++ ls.flatMap nameL ++ m.stop)) := Lib.hid (txt_append _ _)
      rw [HT.out]
      have r6 := hM2.stop
      have s6 := byteCells_32 ho
      clear hle hn' c8
      generalize txt (l0 ++ ls.flatMap nameL) = s at *
      generalize txt m.stop = s7 at *
      go_wp2_with (with_reducible refine hl_load_mid rfl _ rfl P 6 rfl m.stop r6 s6 ?_)
      refine (N3.out _).mono ?_
      rintro r w5 ⟨rfl, hb5⟩
      go_wp2_with fail
      go_ret
      exact ⟨congrArg (fun z => Ending.returned (Value.string z)) HE2.out, hB2.trans (hb5.mono hB2.size)⟩
theorem rpay8_at (m : Mm) (M : Ms) (w : World) (hL : Lies w m M) (hp : M.P) : Calls Tryd.prog 14 #[.agg (mmA m)] w fun e w' => e = .returned (.string (txt M.pay)) ∧ Below w.heap.size w w' := by
  have hk := hL.kind
  unfold Ms.P at hp
  unfold Ms.pay
  obtain ⟨o1, o2, o3⟩ := hL.ok
  by_cases h1 : M.kind = 1
  · rw [if_pos h1]
    have := rp_1 m w (by rw [hk, h1])
    rw [hL.ver, hL.height, hL.serv, hL.nb, txt_append, txt_append, txt_append] at this
    simp only [List.append_assoc] at this
    exact this
  by_cases h3 : M.kind = 3
  · rw [if_neg h1, if_pos h3] at hp
    rw [if_neg h1, if_pos h3]
    have := rp_3 m hL.mok w m.ns.a m.ns.n m.ns.c rfl M.names hL.n1 (by rw [hL.n1]; exact hp.2) hL.names o1 (by rw [hk, h3])
    rw [hL.ver, hL.stop] at this
    simp only [List.append_assoc] at this
    exact this
  by_cases h4 : M.kind = 4
  · rw [if_neg h1, if_neg h3, if_pos h4] at hp
    rw [if_neg h1, if_neg h3, if_pos h4]
    exact rp_4 m hL.mok w m.hs.a m.hs.n m.hs.c rfl M.heads hL.n2 (by rw [hL.n2]; exact hp.2) hL.heads o3 (by rw [hk, h4])
  by_cases h5 : M.kind = 5
  · rw [if_neg h1, if_neg h3, if_neg h4, if_pos h5] at hp
    rw [if_neg h1, if_neg h3, if_neg h4, if_pos h5]
    exact rp_5 m w m.ns.a m.ns.n m.ns.c rfl M.names hL.n1 (by rw [hL.n1]; omega) hL.names o1 (by rw [hk, h5])
  by_cases h6 : M.kind = 6
  · rw [if_neg h1, if_neg h3, if_neg h4, if_neg h5, if_pos (.inl h6)]
    have := rp_6 m w (by rw [hk, h6])
    rwa [hL.nb] at this
  by_cases h7 : M.kind = 7
  · rw [if_neg h1, if_neg h3, if_neg h4, if_neg h5, if_pos (.inr h7)]
    have := rp_7 m w (by rw [hk, h7])
    rwa [hL.nb] at this
  rw [if_neg h1, if_neg h3, if_neg h4, if_neg h5, if_neg (fun h => h.elim h6 h7)]
  exact rp_0 m w (by rw [hk]; exact h1) (by rw [hk]; exact h3) (by rw [hk]; exact h4) (by rw [hk]; exact h5) (by rw [hk]; exact h6) (by rw [hk]; exact h7)
end Go.Proofs.YtmpllagaeoolaaaDoor
/-
  slices.Equal, of names and of headers.
-/
namespace Go.Proofs.YtmpllagaeoolaaaDoor
open Go.RowKit Mem Sc
theorem first_unlike {α : Type} [DecidableEq α] : ∀ (xs ys : List α), xs.length = ys.length → xs ≠ ys → ∃ (j : Nat) (h1 : j < xs.length) (h2 : j < ys.length), (∀ i (g1 : i < xs.length) (g2 : i < ys.length), i < j → xs[i] = ys[i]) ∧ xs[j] ≠ ys[j]
  | [], [], _, h => absurd rfl h
  | [], _ :: _, h, _ => by simp at h
  | _ :: _, [], h, _ => by simp at h
  | x :: xs, y :: ys, hl, h => by
    by_cases hx : x = y
    · obtain ⟨j, h1, h2, h3, h4⟩ := first_unlike xs ys (by simpa using hl) (fun e => h (by rw [hx, e]))
      refine ⟨j + 1, by simpa using h1, by simpa using h2, fun i g1 g2 hi => ?_, by simpa using h4⟩
      cases i with
      | zero => exact hx
      | succ i => simpa using h3 i (by simpa using g1) (by simpa using g2) (by omega)
    · exact ⟨0, by simp, by simp, fun i _ _ hi => by omega, hx⟩
instance hdDec : DecidableEq Hd := fun _ _ => inferInstance
set_option maxRecDepth 100000 in
set_option maxHeartbeats 800000 in
theorem eq_names_len (a : Option Addr) (n c : Nat) (b : Option Addr) (p d : Nat) (h : n ≠ p) (w : World) : Calls Tryd.prog 39 #[.slice a n c, .slice b p d] w fun r w' => r = .returned (.bool false) ∧ Below w.heap.size w w' := by
  have t1 : ((n : Int) == (p : Int)) = false := beq_eq_false_iff_ne.2 (by omega)
  have t2 : (n == p) = false := beq_eq_false_iff_ne.2 h
  have t3 : (!((n : Int) == (p : Int))) = true := by rw [t1]; rfl
  clear h
  go_enter Tryd.func39, Tryd.ntmps39
  go_wp2_with fail
  go_ret
  exact ⟨rfl, Below.refl _ _⟩
set_option maxRecDepth 100000 in
set_option maxHeartbeats 1600000 in
theorem eq_names_yes (a b : Option Addr) (xs ys : List (List UInt8)) (n c d : Nat) (hx : n = xs.length) (hy : n = ys.length) (hl : n ≤ 4611686018427387904) (hE : xs = ys) (w : World) (hA : NamesAt w a xs) (hB0 : NamesAt w b ys) : Calls Tryd.prog 39 #[.slice a n c, .slice b n d] w fun r w' => r = .returned (.bool true) ∧ Below w.heap.size w w' := by
  have HE := Lib.hid hE
  clear hE
  have HX := Lib.hid hx
  have HY := Lib.hid hy
  have HA := Lib.hid hA
  have HB := Lib.hid hB0
  clear hx hy hA hB0
  have t1 : ((n : Int) == (n : Int)) = true := beq_iff_eq.2 rfl
  have t3 : (!((n : Int) == (n : Int))) = false := by rw [t1]; rfl
  go_enter Tryd.func39, Tryd.ntmps39
  go_wp2_with fail
  go_loopw [13] (fun i wr => ∃ k : Nat, k ≤ n ∧ i = .int .i64 k ∧ Below w.heap.size w wr) (fun i _ => n - (intOf i).toNat)
  case atStart => exact ⟨0, by omega, rfl, Below.refl _ _⟩
  case round =>
    obtain ⟨k, hk, rfl, hB⟩ := hrel
    by_cases hlt : k < n
    · have hk1 : k < xs.length := by rw [← HX.out]; exact hlt
      have hk2 : k < ys.length := by rw [← HY.out]; exact hlt
      have hxy : xs[k] = ys[k] := by have := HE.out; subst this; rfl
      obtain ⟨ab, ao, rfl, habl, hca⟩ := (HA.out.below hB) (by omega)
      obtain ⟨bb, bo, rfl, hbbl, hcb⟩ := (HB.out.below hB) (by omega)
      have h1 := hca k hk1
      have h2 := hcb k hk2
      have qn := hn_neq xs[k] ys[k] h1.1 h2.1 false (by rw [beq_iff_eq.2 (hxy)]; rfl)
      have q1 := range_cls h1.2 (by rw [Lib.byteCells_length, h1.1]; omega)
      have q2 := range_cls h2.2 (by rw [Lib.byteCells_length, h2.1]; omega)
      have s1 := byteCells_32 h1.1
      have s2 := byteCells_32 h2.1
      generalize xs[k] = x at *
      generalize ys[k] = y at *
      clear h1 h2 hca hcb hk1 hk2 hxy
      go_wp2_with fail
      refine wp_region_quiet_below (by kernel_rfl) (by kernel_rfl) ?_
      repeat (first
        | (go_big_quiet_want; (with_reducible refine quiet_hl_mid _ rfl ab (ao + k * 32) rfl x s1 q1 ?_); (simp only [Act.put, List.setIfInBounds_toArray, List.set_cons_zero, List.set_cons_succ]); go_big_quiet_on)
        | (go_big_quiet_want; (with_reducible refine quiet_hl_mid _ rfl bb (bo + k * 32) rfl y s2 q2 ?_); (simp only [Act.put, List.setIfInBounds_toArray, List.set_cons_zero, List.set_cons_succ]); go_big_quiet_on)
        | (go_big_quiet_want; (with_reducible refine quiet_hneq _ _ _ rfl _ _ _ rfl rfl qn ?_); (simp only [Act.put, List.setIfInBounds_toArray, List.set_cons_zero, List.set_cons_succ]); go_big_quiet_on)
        | go_big_quiet_step (fail))
      refine wpQuiet_nil ?_
      intro _ hw'
      obtain ⟨q, hw''⟩ := hw'
      subst hw''
      have hB2 := hB.trans ((below_regrown wr q.d q.os).mono hB.size)
      clear q1 q2 qn s1 s2
      generalize Sort.grow (redrawn wr q.d) q.os = w9 at *
      go_wp2_with fail
      go_roundw
      case rel => exact ⟨k + 1, by omega, by go_num, hB2⟩
      case measure => simp [intOf]; omega
    · obtain rfl : k = n := by omega
      go_wp2_with fail
      go_ret
      exact ⟨rfl, hB⟩
set_option maxRecDepth 100000 in
set_option maxHeartbeats 1600000 in
theorem eq_names_no (a b : Option Addr) (xs ys : List (List UInt8)) (n c d : Nat) (hx : n = xs.length) (hy : n = ys.length) (hl : n ≤ 4611686018427387904) (hE : xs ≠ ys) (w : World) (hA : NamesAt w a xs) (hB0 : NamesAt w b ys) : Calls Tryd.prog 39 #[.slice a n c, .slice b n d] w fun r w' => r = .returned (.bool false) ∧ Below w.heap.size w w' := by
  obtain ⟨j, hj1, hj2, hj3, hj4⟩ := first_unlike xs ys (by omega) hE
  have HU := Lib.hid hj4
  have HS := Lib.hid hj3
  have hjn : j < n := by omega
  clear hE hj3 hj4
  have HX := Lib.hid hx
  have HY := Lib.hid hy
  have HA := Lib.hid hA
  have HB := Lib.hid hB0
  clear hx hy hA hB0
  have t1 : ((n : Int) == (n : Int)) = true := beq_iff_eq.2 rfl
  have t3 : (!((n : Int) == (n : Int))) = false := by rw [t1]; rfl
  go_enter Tryd.func39, Tryd.ntmps39
  go_wp2_with fail
  go_loopw [13] (fun i wr => ∃ k : Nat, k ≤ j ∧ i = .int .i64 k ∧ Below w.heap.size w wr) (fun i _ => n - (intOf i).toNat)
  case atStart => exact ⟨0, by omega, rfl, Below.refl _ _⟩
  case round =>
    obtain ⟨k, hk, rfl, hB⟩ := hrel
    have hlt : k < n := by omega
    have hk1 : k < xs.length := by rw [← HX.out]; exact hlt
    have hk2 : k < ys.length := by rw [← HY.out]; exact hlt
    by_cases hkj : k < j
    · have hxy : xs[k] = ys[k] := HS.out k hk1 hk2 hkj
      obtain ⟨ab, ao, rfl, habl, hca⟩ := (HA.out.below hB) (by omega)
      obtain ⟨bb, bo, rfl, hbbl, hcb⟩ := (HB.out.below hB) (by omega)
      have h1 := hca k hk1
      have h2 := hcb k hk2
      have qn := hn_neq xs[k] ys[k] h1.1 h2.1 false (by rw [beq_iff_eq.2 (hxy)]; rfl)
      have q1 := range_cls h1.2 (by rw [Lib.byteCells_length, h1.1]; omega)
      have q2 := range_cls h2.2 (by rw [Lib.byteCells_length, h2.1]; omega)
      have s1 := byteCells_32 h1.1
      have s2 := byteCells_32 h2.1
      generalize xs[k] = x at *
      generalize ys[k] = y at *
      clear h1 h2 hca hcb hk1 hk2 hxy
      go_wp2_with fail
      refine wp_region_quiet_below (by kernel_rfl) (by kernel_rfl) ?_
      repeat (first
        | (go_big_quiet_want; (with_reducible refine quiet_hl_mid _ rfl ab (ao + k * 32) rfl x s1 q1 ?_); (simp only [Act.put, List.setIfInBounds_toArray, List.set_cons_zero, List.set_cons_succ]); go_big_quiet_on)
        | (go_big_quiet_want; (with_reducible refine quiet_hl_mid _ rfl bb (bo + k * 32) rfl y s2 q2 ?_); (simp only [Act.put, List.setIfInBounds_toArray, List.set_cons_zero, List.set_cons_succ]); go_big_quiet_on)
        | (go_big_quiet_want; (with_reducible refine quiet_hneq _ _ _ rfl _ _ _ rfl rfl qn ?_); (simp only [Act.put, List.setIfInBounds_toArray, List.set_cons_zero, List.set_cons_succ]); go_big_quiet_on)
        | go_big_quiet_step (fail))
      refine wpQuiet_nil ?_
      intro _ hw'
      obtain ⟨q, hw''⟩ := hw'
      subst hw''
      have hB2 := hB.trans ((below_regrown wr q.d q.os).mono hB.size)
      clear q1 q2 qn s1 s2
      generalize Sort.grow (redrawn wr q.d) q.os = w9 at *
      go_wp2_with fail
      go_roundw
      case rel => exact ⟨k + 1, by omega, by go_num, hB2⟩
      case measure => simp [intOf]; omega
    · obtain rfl : k = j := by omega
      obtain ⟨ab, ao, rfl, habl, hca⟩ := (HA.out.below hB) (by omega)
      obtain ⟨bb, bo, rfl, hbbl, hcb⟩ := (HB.out.below hB) (by omega)
      have h1 := hca k hk1
      have h2 := hcb k hk2
      have qn := hn_neq xs[k] ys[k] h1.1 h2.1 true (by rw [beq_eq_false_iff_ne.2 HU.out]; rfl)
      have q1 := range_cls h1.2 (by rw [Lib.byteCells_length, h1.1]; omega)
      have q2 := range_cls h2.2 (by rw [Lib.byteCells_length, h2.1]; omega)
      have s1 := byteCells_32 h1.1
      have s2 := byteCells_32 h2.1
      generalize xs[k] = x at *
      generalize ys[k] = y at *
      clear h1 h2 hca hcb hk1 hk2
      go_wp2_with fail
      refine wp_region_quiet_below (by kernel_rfl) (by kernel_rfl) ?_
      repeat (first
        | (go_big_quiet_want; (with_reducible refine quiet_hl_mid _ rfl ab (ao + k * 32) rfl x s1 q1 ?_); (simp only [Act.put, List.setIfInBounds_toArray, List.set_cons_zero, List.set_cons_succ]); go_big_quiet_on)
        | (go_big_quiet_want; (with_reducible refine quiet_hl_mid _ rfl bb (bo + k * 32) rfl y s2 q2 ?_); (simp only [Act.put, List.setIfInBounds_toArray, List.set_cons_zero, List.set_cons_succ]); go_big_quiet_on)
        | (go_big_quiet_want; (with_reducible refine quiet_hneq _ _ _ rfl _ _ _ rfl rfl qn ?_); (simp only [Act.put, List.setIfInBounds_toArray, List.set_cons_zero, List.set_cons_succ]); go_big_quiet_on)
        | go_big_quiet_step (fail))
      refine wpQuiet_nil ?_
      intro _ hw'
      obtain ⟨q, hw''⟩ := hw'
      subst hw''
      have hB2 := hB.trans ((below_regrown wr q.d q.os).mono hB.size)
      clear q1 q2 qn s1 s2
      generalize Sort.grow (redrawn wr q.d) q.os = w9 at *
      go_wp2_with fail
      go_ret
      exact ⟨rfl, hB2⟩
theorem eq_names_at (a b : Option Addr) (xs ys : List (List UInt8)) (n c p d : Nat) (hx : n = xs.length) (hy : p = ys.length) (hl : n ≤ 4611686018427387904) (g : Bool) (hg : decide (xs = ys) = g) (w : World) (hA : NamesAt w a xs) (hB : NamesAt w b ys) : Calls Tryd.prog 39 #[.slice a n c, .slice b p d] w fun r w' => r = .returned (.bool g) ∧ Below w.heap.size w w' := by
  by_cases hn : n = p
  · subst hn
    by_cases hE : xs = ys
    · rw [decide_eq_true hE] at hg
      subst hg
      exact eq_names_yes a b xs ys n c d hx hy hl hE w hA hB
    · rw [decide_eq_false hE] at hg
      subst hg
      exact eq_names_no a b xs ys n c d hx hy hl hE w hA hB
  · rw [decide_eq_false (fun e => hn (by rw [hx, hy, e]))] at hg
    subst hg
    exact eq_names_len a n c b p d hn w
set_option maxRecDepth 100000 in
set_option maxHeartbeats 800000 in
theorem eq_heads_len (a : Option Addr) (n c : Nat) (b : Option Addr) (p d : Nat) (h : n ≠ p) (w : World) : Calls Tryd.prog 40 #[.slice a n c, .slice b p d] w fun r w' => r = .returned (.bool false) ∧ Below w.heap.size w w' := by
  have t1 : ((n : Int) == (p : Int)) = false := beq_eq_false_iff_ne.2 (by omega)
  have t2 : (n == p) = false := beq_eq_false_iff_ne.2 h
  have t3 : (!((n : Int) == (p : Int))) = true := by rw [t1]; rfl
  clear h
  go_enter Tryd.func40, Tryd.ntmps40
  go_wp2_with fail
  go_ret
  exact ⟨rfl, Below.refl _ _⟩
set_option maxRecDepth 100000 in
set_option maxHeartbeats 1600000 in
theorem eq_heads_yes (a b : Option Addr) (xs ys : List Hd) (n c d : Nat) (hx : n = xs.length) (hy : n = ys.length) (hl : n ≤ 4611686018427387904) (hE : xs = ys) (w : World) (hA : HeadersAt w a xs) (hB0 : HeadersAt w b ys) : Calls Tryd.prog 40 #[.slice a n c, .slice b n d] w fun r w' => r = .returned (.bool true) ∧ Below w.heap.size w w' := by
  have HE := Lib.hid hE
  clear hE
  have HX := Lib.hid hx
  have HY := Lib.hid hy
  have HA := Lib.hid hA
  have HB := Lib.hid hB0
  clear hx hy hA hB0
  have t1 : ((n : Int) == (n : Int)) = true := beq_iff_eq.2 rfl
  have t3 : (!((n : Int) == (n : Int))) = false := by rw [t1]; rfl
  go_enter Tryd.func40, Tryd.ntmps40
  go_wp2_with fail
  go_loopw [13] (fun i wr => ∃ k : Nat, k ≤ n ∧ i = .int .i64 k ∧ Below w.heap.size w wr) (fun i _ => n - (intOf i).toNat)
  case atStart => exact ⟨0, by omega, rfl, Below.refl _ _⟩
  case round =>
    obtain ⟨k, hk, rfl, hB⟩ := hrel
    by_cases hlt : k < n
    · have hk1 : k < xs.length := by rw [← HX.out]; exact hlt
      have hk2 : k < ys.length := by rw [← HY.out]; exact hlt
      have hxy : xs[k] = ys[k] := by have := HE.out; subst this; rfl
      obtain ⟨ab, ao, rfl, habl, hca⟩ := (HA.out.below hB) (by omega)
      obtain ⟨bb, bo, rfl, hbbl, hcb⟩ := (HB.out.below hB) (by omega)
      have h1 := hca k hk1
      have h2 := hcb k hk2
      have qn := hd_neq xs[k] ys[k] h1.1 h2.1 false (by rw [decide_eq_true (hxy)]; rfl)
      have q1 := range_cls h1.2 (by exact hdC_pos _)
      have q2 := range_cls h2.2 (by exact hdC_pos _)
      have s1 := hdC_length h1.1
      have s2 := hdC_length h2.1
      generalize xs[k] = x at *
      generalize ys[k] = y at *
      clear h1 h2 hca hcb hk1 hk2 hxy
      go_wp2_with fail
      refine wp_region_quiet_below (by kernel_rfl) (by kernel_rfl) ?_
      repeat (first
        | (go_big_quiet_want; (with_reducible refine quiet_hd_mid _ rfl ab (ao + k * 68) rfl x s1 q1 ?_); (simp only [Act.put, List.setIfInBounds_toArray, List.set_cons_zero, List.set_cons_succ]); go_big_quiet_on)
        | (go_big_quiet_want; (with_reducible refine quiet_hd_mid _ rfl bb (bo + k * 68) rfl y s2 q2 ?_); (simp only [Act.put, List.setIfInBounds_toArray, List.set_cons_zero, List.set_cons_succ]); go_big_quiet_on)
        | (go_big_quiet_want; (with_reducible refine quiet_hdneq _ _ _ rfl _ _ _ rfl rfl qn ?_); (simp only [Act.put, List.setIfInBounds_toArray, List.set_cons_zero, List.set_cons_succ]); go_big_quiet_on)
        | go_big_quiet_step (fail))
      refine wpQuiet_nil ?_
      intro _ hw'
      obtain ⟨q, hw''⟩ := hw'
      subst hw''
      have hB2 := hB.trans ((below_regrown wr q.d q.os).mono hB.size)
      clear q1 q2 qn s1 s2
      generalize Sort.grow (redrawn wr q.d) q.os = w9 at *
      go_wp2_with fail
      go_roundw
      case rel => exact ⟨k + 1, by omega, by go_num, hB2⟩
      case measure => simp [intOf]; omega
    · obtain rfl : k = n := by omega
      go_wp2_with fail
      go_ret
      exact ⟨rfl, hB⟩
set_option maxRecDepth 100000 in
set_option maxHeartbeats 1600000 in
theorem eq_heads_no (a b : Option Addr) (xs ys : List Hd) (n c d : Nat) (hx : n = xs.length) (hy : n = ys.length) (hl : n ≤ 4611686018427387904) (hE : xs ≠ ys) (w : World) (hA : HeadersAt w a xs) (hB0 : HeadersAt w b ys) : Calls Tryd.prog 40 #[.slice a n c, .slice b n d] w fun r w' => r = .returned (.bool false) ∧ Below w.heap.size w w' := by
  obtain ⟨j, hj1, hj2, hj3, hj4⟩ := first_unlike xs ys (by omega) hE
  have HU := Lib.hid hj4
  have HS := Lib.hid hj3
  have hjn : j < n := by omega
  clear hE hj3 hj4
  have HX := Lib.hid hx
  have HY := Lib.hid hy
  have HA := Lib.hid hA
  have HB := Lib.hid hB0
  clear hx hy hA hB0
  have t1 : ((n : Int) == (n : Int)) = true := beq_iff_eq.2 rfl
  have t3 : (!((n : Int) == (n : Int))) = false := by rw [t1]; rfl
  go_enter Tryd.func40, Tryd.ntmps40
  go_wp2_with fail
  go_loopw [13] (fun i wr => ∃ k : Nat, k ≤ j ∧ i = .int .i64 k ∧ Below w.heap.size w wr) (fun i _ => n - (intOf i).toNat)
  case atStart => exact ⟨0, by omega, rfl, Below.refl _ _⟩
  case round =>
    obtain ⟨k, hk, rfl, hB⟩ := hrel
    have hlt : k < n := by omega
    have hk1 : k < xs.length := by rw [← HX.out]; exact hlt
    have hk2 : k < ys.length := by rw [← HY.out]; exact hlt
    by_cases hkj : k < j
    · have hxy : xs[k] = ys[k] := HS.out k hk1 hk2 hkj
      obtain ⟨ab, ao, rfl, habl, hca⟩ := (HA.out.below hB) (by omega)
      obtain ⟨bb, bo, rfl, hbbl, hcb⟩ := (HB.out.below hB) (by omega)
      have h1 := hca k hk1
      have h2 := hcb k hk2
      have qn := hd_neq xs[k] ys[k] h1.1 h2.1 false (by rw [decide_eq_true (hxy)]; rfl)
      have q1 := range_cls h1.2 (by exact hdC_pos _)
      have q2 := range_cls h2.2 (by exact hdC_pos _)
      have s1 := hdC_length h1.1
      have s2 := hdC_length h2.1
      generalize xs[k] = x at *
      generalize ys[k] = y at *
      clear h1 h2 hca hcb hk1 hk2 hxy
      go_wp2_with fail
      refine wp_region_quiet_below (by kernel_rfl) (by kernel_rfl) ?_
      repeat (first
        | (go_big_quiet_want; (with_reducible refine quiet_hd_mid _ rfl ab (ao + k * 68) rfl x s1 q1 ?_); (simp only [Act.put, List.setIfInBounds_toArray, List.set_cons_zero, List.set_cons_succ]); go_big_quiet_on)
        | (go_big_quiet_want; (with_reducible refine quiet_hd_mid _ rfl bb (bo + k * 68) rfl y s2 q2 ?_); (simp only [Act.put, List.setIfInBounds_toArray, List.set_cons_zero, List.set_cons_succ]); go_big_quiet_on)
        | (go_big_quiet_want; (with_reducible refine quiet_hdneq _ _ _ rfl _ _ _ rfl rfl qn ?_); (simp only [Act.put, List.setIfInBounds_toArray, List.set_cons_zero, List.set_cons_succ]); go_big_quiet_on)
        | go_big_quiet_step (fail))
      refine wpQuiet_nil ?_
      intro _ hw'
      obtain ⟨q, hw''⟩ := hw'
      subst hw''
      have hB2 := hB.trans ((below_regrown wr q.d q.os).mono hB.size)
      clear q1 q2 qn s1 s2
      generalize Sort.grow (redrawn wr q.d) q.os = w9 at *
      go_wp2_with fail
      go_roundw
      case rel => exact ⟨k + 1, by omega, by go_num, hB2⟩
      case measure => simp [intOf]; omega
    · obtain rfl : k = j := by omega
      obtain ⟨ab, ao, rfl, habl, hca⟩ := (HA.out.below hB) (by omega)
      obtain ⟨bb, bo, rfl, hbbl, hcb⟩ := (HB.out.below hB) (by omega)
      have h1 := hca k hk1
      have h2 := hcb k hk2
      have qn := hd_neq xs[k] ys[k] h1.1 h2.1 true (by rw [decide_eq_false HU.out]; rfl)
      have q1 := range_cls h1.2 (by exact hdC_pos _)
      have q2 := range_cls h2.2 (by exact hdC_pos _)
      have s1 := hdC_length h1.1
      have s2 := hdC_length h2.1
      generalize xs[k] = x at *
      generalize ys[k] = y at *
      clear h1 h2 hca hcb hk1 hk2
      go_wp2_with fail
      refine wp_region_quiet_below (by kernel_rfl) (by kernel_rfl) ?_
      repeat (first
        | (go_big_quiet_want; (with_reducible refine quiet_hd_mid _ rfl ab (ao + k * 68) rfl x s1 q1 ?_); (simp only [Act.put, List.setIfInBounds_toArray, List.set_cons_zero, List.set_cons_succ]); go_big_quiet_on)
        | (go_big_quiet_want; (with_reducible refine quiet_hd_mid _ rfl bb (bo + k * 68) rfl y s2 q2 ?_); (simp only [Act.put, List.setIfInBounds_toArray, List.set_cons_zero, List.set_cons_succ]); go_big_quiet_on)
        | (go_big_quiet_want; (with_reducible refine quiet_hdneq _ _ _ rfl _ _ _ rfl rfl qn ?_); (simp only [Act.put, List.setIfInBounds_toArray, List.set_cons_zero, List.set_cons_succ]); go_big_quiet_on)
        | go_big_quiet_step (fail))
      refine wpQuiet_nil ?_
      intro _ hw'
      obtain ⟨q, hw''⟩ := hw'
      subst hw''
      have hB2 := hB.trans ((below_regrown wr q.d q.os).mono hB.size)
      clear q1 q2 qn s1 s2
      generalize Sort.grow (redrawn wr q.d) q.os = w9 at *
      go_wp2_with fail
      go_ret
      exact ⟨rfl, hB2⟩
theorem eq_heads_at (a b : Option Addr) (xs ys : List Hd) (n c p d : Nat) (hx : n = xs.length) (hy : p = ys.length) (hl : n ≤ 4611686018427387904) (g : Bool) (hg : decide (xs = ys) = g) (w : World) (hA : HeadersAt w a xs) (hB : HeadersAt w b ys) : Calls Tryd.prog 40 #[.slice a n c, .slice b p d] w fun r w' => r = .returned (.bool g) ∧ Below w.heap.size w w' := by
  by_cases hn : n = p
  · subst hn
    by_cases hE : xs = ys
    · rw [decide_eq_true hE] at hg
      subst hg
      exact eq_heads_yes a b xs ys n c d hx hy hl hE w hA hB
    · rw [decide_eq_false hE] at hg
      subst hg
      exact eq_heads_no a b xs ys n c d hx hy hl hE w hA hB
  · rw [decide_eq_false (fun e => hn (by rw [hx, hy, e]))] at hg
    subst hg
    exact eq_heads_len a n c b p d hn w
end Go.Proofs.YtmpllagaeoolaaaDoor
/-
  speech: Same.
-/
namespace Go.Proofs.YtmpllagaeoolaaaDoor
open Go.RowKit Mem Sc Rg2
theorem ex_load_mm {ρ : Operand → Value} {o : Oper} {w : World} {x : Operand} {g : Nat} {m : Mm} (ho : o.op = .load 27 x) (hx : ρ x = .pointer (some ⟨g, 0, none⟩)) (hg : MmAt w g m) (hs : (mmA m).size = 39) : (execOp ρ o).run Tryd.prog w = .ok (.value (.agg (mmA m))) w :=
  ex_load_cell ho hx (run_loadVar_row w g 27 27 (mmA m) (0, 0) _ (Has.out hg) Tryd.underlying27 rfl (mminfo.trans (by rw [hs])))
theorem ex_store_mm {ρ : Operand → Value} {o : Oper} {w : World} {x y : Operand} {g : Nat} {m m' : Mm} (ho : o.op = .store 27 x y) (hx : ρ x = .pointer (some ⟨g, 0, none⟩)) (hy : ρ y = .agg (mmA m')) (hg : MmAt w g m) (hs : (mmA m).size = 39) (hs' : (mmA m').size = 39) : (execOp ρ o).run Tryd.prog w = .ok .skip (w.setRow g (mmA m')) :=
  ex_store_cell ho hx hy (run_storeVar_row w g 27 27 (mmA m) (mmA m') (Has.out hg) (mminfo.trans (by rw [hs'])) (by rw [hs, hs']) (mmA_one m'))
theorem hl_load_mid_g {w : World} {ops : Array Oper} {rest : List Oper} {o : Oper} {a : Act} {Q : Exit → Act → World → Prop} (hw : Region.wanted o (yielded ops a.tmps) = true) (x : Operand) (ho : o.op = .load 24 x) (g off : Nat) (hx : a.eval x = .pointer (some ⟨g, off, none⟩)) (l : List UInt8) (hg : w.rangeAt g off (Lib.byteCells l)) (hs : (Lib.byteCells l).length = 32)
    (h : wpList Tryd.prog ops Q rest (a.put o.dst (.agg (bytesV l))) w) : wpList Tryd.prog ops Q (o :: rest) a w :=
  BigFrame.wpList_want hw fun _ hK => wp_load_mid 24 x ho g off hx (Lib.byteCells l) _ hg Tryd.underlying24 rfl (hinfo.trans (by rw [hs])) (hK _ _ h)
def sTab (a a' b b' : Mm) : Nat → Value → Prop
  | 0, v => v = .agg (mmA a)
  | 1, v => v = .agg (mmA a')
  | 2, v => v = .agg (mmA b)
  | 3, v => v = .agg (mmA b')
  | _, _ => True
def pk (l : Array Bool) (k : Nat) (m m' : Mm) : Mm := if l.getD k false = true then m' else m
theorem pk_other (l : Array Bool) (i k : Nat) (m m' : Mm) (h : i ≠ k) : pk (l.setIfInBounds i true) k m m' = pk l k m m' := by
  unfold pk; rw [getD_put l i k h]
theorem pk_now (l : Array Bool) (k : Nat) (m m' : Mm) (h : k < l.size) : pk (l.setIfInBounds k true) k m m' = m' := by
  unfold pk; rw [getD_now l k h, if_pos rfl]
theorem pk_no (l : Array Bool) (k : Nat) (m m' : Mm) (h : l.getD k false = false) : pk l k m m' = m := by
  unfold pk; rw [h, if_neg (by decide)]
theorem pk_yes (l : Array Bool) (k : Nat) (m m' : Mm) (h : l.getD k false = true) : pk l k m m' = m' := by
  unfold pk; rw [h, if_pos rfl]
theorem pk_size (l : Array Bool) (k : Nat) (m m' : Mm) (h : (mmA m).size = 39) (h' : (mmA m').size = 39) : (mmA (pk l k m m')).size = 39 := by
  unfold pk; split
  · exact h'
  · exact h
set_option maxRecDepth 100000 in
set_option maxHeartbeats 4000000 in
theorem same_cells (a b a' b' : Mm) (oa : a.ok) (ob : b.ok) (ha : a.bare = a') (hb : b.bare = b') (xs ys : List (List UInt8)) (us vs : List Hd) (w : World)
    (n1 : a'.ns.n = xs.length) (n2 : b'.ns.n = ys.length) (l1 : a'.ns.n ≤ 4611686018427387904) (l2 : a'.hs.n ≤ 4611686018427387904) (n3 : a'.hs.n = us.length) (n4 : b'.hs.n = vs.length) (A1 : NamesAt w a'.ns.a xs) (A2 : NamesAt w b'.ns.a ys) (A3 : HeadersAt w a'.hs.a us) (A4 : HeadersAt w b'.hs.a vs)
    (g0 g1 g2 g3 g4 g5 g6 g7 : Bool) (e0 : (a'.kind == b'.kind) = g0) (e1 : (a'.ver == b'.ver) = g1) (e2 : (a'.height == b'.height) = g2) (e3 : (a'.serv == b'.serv) = g3) (e4 : (a'.nb == b'.nb) = g4)
    (e5 : (a'.stop == b'.stop) = g5) (e6 : decide (xs = ys) = g6) (e7 : decide (us = vs) = g7) :
    Calls Tryd.prog 18 #[.agg (mmA a), .agg (mmA b)] w fun r w' => r = .returned (.bool (g0 && g1 && g2 && g3 && g4 && g5 && g6 && g7)) ∧ Below w.heap.size w w' := by
  have KA := Lib.hid (bare_at a oa)
  have KB := Lib.hid (bare_at b ob)
  have oa' : a'.ok := by rw [← ha]; exact mbare_ok oa
  have ob' : b'.ok := by rw [← hb]; exact mbare_ok ob
  rw [ha] at KA
  rw [hb] at KB
  have za := mmA_size oa
  have zb := mmA_size ob
  have za' := mmA_size oa'
  have zb' := mmA_size ob'
  have K6 := Lib.hid (fun w h1 h2 => eq_names_at a'.ns.a b'.ns.a xs ys a'.ns.n a'.ns.c b'.ns.n b'.ns.c n1 n2 l1 g6 e6 w h1 h2)
  have K7 := Lib.hid (fun w h1 h2 => eq_heads_at a'.hs.a b'.hs.a us vs a'.hs.n a'.hs.c b'.hs.n b'.hs.c n3 n4 l2 g7 e7 w h1 h2)
  have H1 := Lib.hid A1
  have H2 := Lib.hid A2
  have H3 := Lib.hid A3
  have H4 := Lib.hid A4
  have q5 := fun w => hn_eql a'.stop b'.stop oa' ob' g5 e5 w
  have Q5 := Lib.hid q5
  have sa := byteCells_32 oa'
  have sb := byteCells_32 ob'
  clear n1 n2 n3 n4 l1 l2 e5 e6 e7 A1 A2 A3 A4 q5 ha hb oa ob
  have hP := mm_new w a
  have hQ := mm_new1 w (.cells (mmA a) 27) b
  have hb1 : Below w.heap.size w (w.alloc (.cells (mmA a) 27)) := (Below.refl _ _).alloc (Nat.le_refl _) _
  have hb2 : Below (w.alloc (.cells (mmA a) 27)).heap.size (w.alloc (.cells (mmA a) 27)) ((w.alloc (.cells (mmA a) 27)).alloc (.cells (mmA b) 27)) := (Below.refl _ _).alloc (Nat.le_refl _) _
  replace hP := hP.on hb2
  have hB := hb1.trans (hb2.mono hb1.size)
  clear hb1 hb2
  go_enter Tryd.func18, Tryd.ntmps18
  go_upto_region 1 with fail
  obtain ⟨P, hPe⟩ : ∃ P, P = w.heap.size := ⟨_, rfl⟩
  obtain ⟨Q, hQe⟩ : ∃ Q, Q = w.heap.size + 1 := ⟨_, rfl⟩
  rw [← hQe] at hQ ⊢
  rw [← hPe] at hP ⊢
  have hPQ : P ≠ Q := by omega
  have hPw : w.heap.size ≤ P := by omega
  have hQw : w.heap.size ≤ Q := by omega
  clear hPe hQe
  generalize World.alloc _ _ = w1 at *
  refine Rg2.wp_region_inv (by kernel_rfl) (fun w' => Below w.heap.size w w') (fun i v _ => sTab a a' b b' i v) (fun l _ w' => MmAt w' P (pk l 4 a a') ∧ MmAt w' Q (pk l 5 b b')) (fun _ _ => True) (fun _ _ => trivial) (fun _ _ _ _ _ _ h => h) (by kernel_rfl) hB.drew ?_ ?_ ?_
  · intro l hl
    rw [pk_no l 4 _ _ (hl 4), pk_no l 5 _ _ (hl 5)]
    exact ⟨Has.drew hP, Has.drew hQ⟩
  · intro i o listed a9 wx ho' hn hdep hinv
    have hC := hinv.c
    obtain ⟨hI1, hI2⟩ := hinv.i
    have hls := hinv.size
    have hi : i < 6 := (Array.getElem?_eq_some_iff.1 ho').1
    obtain rfl | rfl | rfl | rfl | rfl | rfl : i = 0 ∨ i = 1 ∨ i = 2 ∨ i = 3 ∨ i = 4 ∨ i = 5 := by omega
    all_goals obtain rfl := Option.some.inj ho'
    · have hno : listed.getD 4 false = false := by
        have := hinv.aheadT 4 (k := 4) (by kernel_rfl) hn (by decide) (by decide)
        rwa [getD_put listed 0 4 (by decide)] at this
      have hM : MmAt wx P a := by rw [pk_no listed 4 _ _ hno] at hI1; exact hI1
      exact duty_value (C := fun w' => Below w.heap.size w w') (S := fun _ _ => True) (R := fun v _ => sTab a a' b b' 0 v) (J := fun _ w' => MmAt w' P (pk (listed.setIfInBounds 0 true) 4 a a') ∧ MmAt w' Q (pk (listed.setIfInBounds 0 true) 5 b b')) (fun _ _ => trivial) hC (wanted_free rfl) (ex_load_mm rfl (hinv.old' 2 (by kernel_rfl)) hM za) rfl (by rw [pk_other _ 0 4 _ _ (by decide), pk_other _ 0 5 _ _ (by decide)]; exact ⟨hI1, hI2⟩)
    · have e5 : a9.eval (.tmp 5) = .agg (mmA a) := (hinv.got 0 _ 5 rfl (hdep ⟨0, .data⟩ (by simp) rfl) rfl)
      exact duty_call (C := fun w' => Below w.heap.size w w') (S := fun _ _ => True) (R := fun v _ => sTab a a' b b' 1 v) (J := fun _ w' => MmAt w' P (pk (listed.setIfInBounds 1 true) 4 a a') ∧ MmAt w' Q (pk (listed.setIfInBounds 1 true) 5 b b')) (wanted_free rfl) (f := 27) (args := #[a9.eval (.tmp 5)]) (by kernel_rfl) (by rw [e5]; exact KA.out wx) (fun w' hb => ⟨hC.trans (hb.mono hC.size), trivial, rfl, by rw [pk_other _ 1 4 _ _ (by decide), pk_other _ 1 5 _ _ (by decide)]; exact ⟨hI1.on hb, hI2.on hb⟩⟩)
    · have hno : listed.getD 5 false = false := by
        have := hinv.aheadT 4 (k := 5) (by kernel_rfl) hn (by decide) (by decide)
        rwa [getD_put listed 2 5 (by decide)] at this
      have hM : MmAt wx Q b := by rw [pk_no listed 5 _ _ hno] at hI2; exact hI2
      exact duty_value (C := fun w' => Below w.heap.size w w') (S := fun _ _ => True) (R := fun v _ => sTab a a' b b' 2 v) (J := fun _ w' => MmAt w' P (pk (listed.setIfInBounds 2 true) 4 a a') ∧ MmAt w' Q (pk (listed.setIfInBounds 2 true) 5 b b')) (fun _ _ => trivial) hC (wanted_free rfl) (ex_load_mm rfl (hinv.old' 3 (by kernel_rfl)) hM zb) rfl (by rw [pk_other _ 2 4 _ _ (by decide), pk_other _ 2 5 _ _ (by decide)]; exact ⟨hI1, hI2⟩)
    · have e5 : a9.eval (.tmp 7) = .agg (mmA b) := (hinv.got 2 _ 7 rfl (hdep ⟨2, .data⟩ (by simp) rfl) rfl)
      exact duty_call (C := fun w' => Below w.heap.size w w') (S := fun _ _ => True) (R := fun v _ => sTab a a' b b' 3 v) (J := fun _ w' => MmAt w' P (pk (listed.setIfInBounds 3 true) 4 a a') ∧ MmAt w' Q (pk (listed.setIfInBounds 3 true) 5 b b')) (wanted_free rfl) (f := 27) (args := #[a9.eval (.tmp 7)]) (by kernel_rfl) (by rw [e5]; exact KB.out wx) (fun w' hb => ⟨hC.trans (hb.mono hC.size), trivial, rfl, by rw [pk_other _ 3 4 _ _ (by decide), pk_other _ 3 5 _ _ (by decide)]; exact ⟨hI1.on hb, hI2.on hb⟩⟩)
    · refine duty_store (C := fun w' => Below w.heap.size w w') (S := fun _ _ => True) (R := fun v _ => sTab a a' b b' 4 v) (J := fun _ w' => MmAt w' P (pk (listed.setIfInBounds 4 true) 4 a a') ∧ MmAt w' Q (pk (listed.setIfInBounds 4 true) 5 b b')) (wanted_free rfl) (ex_store_mm rfl (hinv.old' 2 (by kernel_rfl)) (hinv.got 1 _ 6 rfl (hdep ⟨1, .data⟩ (by simp) rfl) rfl) hI1 (pk_size _ _ _ _ za za') za') (below_setRow hC hPw _) trivial trivial ?_
      rw [pk_now _ 4 _ _ (by rw [hls]; decide), pk_other _ 4 5 _ _ (by decide)]
      exact ⟨Has.row hI1 _, Has.otherRow hI2 _ _ (Ne.symm hPQ)⟩
    · refine duty_store (C := fun w' => Below w.heap.size w w') (S := fun _ _ => True) (R := fun v _ => sTab a a' b b' 5 v) (J := fun _ w' => MmAt w' P (pk (listed.setIfInBounds 5 true) 4 a a') ∧ MmAt w' Q (pk (listed.setIfInBounds 5 true) 5 b b')) (wanted_free rfl) (ex_store_mm rfl (hinv.old' 3 (by kernel_rfl)) (hinv.got 3 _ 8 rfl (hdep ⟨3, .data⟩ (by simp) rfl) rfl) hI2 (pk_size _ _ _ _ zb zb') zb') (below_setRow hC hQw _) trivial trivial ?_
      rw [pk_now _ 5 _ _ (by rw [hls]; decide), pk_other _ 5 4 _ _ (by decide)]
      exact ⟨Has.otherRow hI1 _ _ hPQ, Has.row hI2 _⟩
  · intro listed a9 wx hall hinv
    have hC := hinv.c
    obtain ⟨hI1, hI2⟩ := hinv.i
    rw [pk_yes listed 4 _ _ (hall 4 (by decide))] at hI1
    rw [pk_yes listed 5 _ _ (hall 5 (by decide))] at hI2
    clear hP hQ hB KA KB za zb za' zb'
    obtain ⟨u, hu⟩ : ∃ u : Nat → Value, ∀ t, u t = a9.eval (.tmp t) := ⟨_, fun _ => rfl⟩
    rw [frame_back a9 63 u hinv.tsize hinv.defers hu]
    have f0 := hinv.old' 0 (by kernel_rfl)
    have f1 := hinv.old' 1 (by kernel_rfl)
    have f2 := hinv.old' 2 (by kernel_rfl)
    have f3 := hinv.old' 3 (by kernel_rfl)
    have f4 := hinv.old' 4 (by kernel_rfl)
    have f9 := hinv.old' 9 (by kernel_rfl)
    have f10 := hinv.old' 10 (by kernel_rfl)
    have f11 := hinv.old' 11 (by kernel_rfl)
    have f12 := hinv.old' 12 (by kernel_rfl)
    have f13 := hinv.old' 13 (by kernel_rfl)
    have f14 := hinv.old' 14 (by kernel_rfl)
    have f15 := hinv.old' 15 (by kernel_rfl)
    have f16 := hinv.old' 16 (by kernel_rfl)
    have f17 := hinv.old' 17 (by kernel_rfl)
    have f18 := hinv.old' 18 (by kernel_rfl)
    have f19 := hinv.old' 19 (by kernel_rfl)
    have f20 := hinv.old' 20 (by kernel_rfl)
    have f21 := hinv.old' 21 (by kernel_rfl)
    have f22 := hinv.old' 22 (by kernel_rfl)
    have f23 := hinv.old' 23 (by kernel_rfl)
    have f24 := hinv.old' 24 (by kernel_rfl)
    have f25 := hinv.old' 25 (by kernel_rfl)
    have f26 := hinv.old' 26 (by kernel_rfl)
    have f27 := hinv.old' 27 (by kernel_rfl)
    have f28 := hinv.old' 28 (by kernel_rfl)
    have f29 := hinv.old' 29 (by kernel_rfl)
    have f30 := hinv.old' 30 (by kernel_rfl)
    have f31 := hinv.old' 31 (by kernel_rfl)
    have f32 := hinv.old' 32 (by kernel_rfl)
    have f33 := hinv.old' 33 (by kernel_rfl)
    have f34 := hinv.old' 34 (by kernel_rfl)
    have f35 := hinv.old' 35 (by kernel_rfl)
    have f36 := hinv.old' 36 (by kernel_rfl)
    have f37 := hinv.old' 37 (by kernel_rfl)
    have f38 := hinv.old' 38 (by kernel_rfl)
    have f39 := hinv.old' 39 (by kernel_rfl)
    have f40 := hinv.old' 40 (by kernel_rfl)
    have f41 := hinv.old' 41 (by kernel_rfl)
    have f42 := hinv.old' 42 (by kernel_rfl)
    have f43 := hinv.old' 43 (by kernel_rfl)
    have f44 := hinv.old' 44 (by kernel_rfl)
    have f45 := hinv.old' 45 (by kernel_rfl)
    have f46 := hinv.old' 46 (by kernel_rfl)
    have f47 := hinv.old' 47 (by kernel_rfl)
    have f48 := hinv.old' 48 (by kernel_rfl)
    have f49 := hinv.old' 49 (by kernel_rfl)
    have f50 := hinv.old' 50 (by kernel_rfl)
    have f51 := hinv.old' 51 (by kernel_rfl)
    have f52 := hinv.old' 52 (by kernel_rfl)
    have f53 := hinv.old' 53 (by kernel_rfl)
    have f54 := hinv.old' 54 (by kernel_rfl)
    have f55 := hinv.old' 55 (by kernel_rfl)
    have f56 := hinv.old' 56 (by kernel_rfl)
    have f57 := hinv.old' 57 (by kernel_rfl)
    have f58 := hinv.old' 58 (by kernel_rfl)
    have f59 := hinv.old' 59 (by kernel_rfl)
    have f60 := hinv.old' 60 (by kernel_rfl)
    have f61 := hinv.old' 61 (by kernel_rfl)
    have f62 := hinv.old' 62 (by kernel_rfl)
    simp only [← hu] at f0 f1 f2 f3 f4 f9 f10 f11 f12 f13 f14 f15 f16 f17 f18 f19 f20 f21 f22 f23 f24 f25 f26 f27 f28 f29 f30 f31 f32 f33 f34 f35 f36 f37 f38 f39 f40 f41 f42 f43 f44 f45 f46 f47 f48 f49 f50 f51 f52 f53 f54 f55 f56 f57 f58 f59 f60 f61 f62
    simp [Act.eval] at f0 f1 f2 f3 f4 f9 f10 f11 f12 f13 f14 f15 f16 f17 f18 f19 f20 f21 f22 f23 f24 f25 f26 f27 f28 f29 f30 f31 f32 f33 f34 f35 f36 f37 f38 f39 f40 f41 f42 f43 f44 f45 f46 f47 f48 f49 f50 f51 f52 f53 f54 f55 f56 f57 f58 f59 f60 f61 f62
    clear hu hinv hall
    show Exit.then _ _ _ (⟨#[u 0, u 1, u 2, u 3, u 4, u 5, u 6, u 7, u 8, u 9, u 10, u 11, u 12, u 13, u 14, u 15, u 16, u 17, u 18, u 19, u 20, u 21, u 22, u 23, u 24, u 25, u 26, u 27, u 28, u 29, u 30, u 31, u 32, u 33, u 34, u 35, u 36, u 37, u 38, u 39, u 40, u 41, u 42, u 43, u 44, u 45, u 46, u 47, u 48, u 49, u 50, u 51, u 52, u 53, u 54, u 55, u 56, u 57, u 58, u 59, u 60, u 61, u 62], []⟩ : Act) _
    rw [f0, f1, f2, f3, f4, f9, f10, f11, f12, f13, f14, f15, f16, f17, f18, f19, f20, f21, f22, f23, f24, f25, f26, f27, f28, f29, f30, f31, f32, f33, f34, f35, f36, f37, f38, f39, f40, f41, f42, f43, f44, f45, f46, f47, f48, f49, f50, f51, f52, f53, f54, f55, f56, f57, f58, f59, f60, f61, f62]
    clear f0 f1 f2 f3 f4 f9 f10 f11 f12 f13 f14 f15 f16 f17 f18 f19 f20 f21 f22 f23 f24 f25 f26 f27 f28 f29 f30 f31 f32 f33 f34 f35 f36 f37 f38 f39 f40 f41 f42 f43 f44 f45 f46 f47 f48 f49 f50 f51 f52 f53 f54 f55 f56 f57 f58 f59 f60 f61 f62
    have ck1 := hI1.kind
    have ck2 := hI2.kind
    have cv1 := hI1.ver
    have cv2 := hI2.ver
    have ch1 := hI1.height
    have ch2 := hI2.height
    have cs1 := hI1.serv
    have cs2 := hI2.serv
    have cn1 := hI1.nb
    have cn2 := hI2.nb
    have cl1 := hI1.ns
    have cl2 := hI2.ns
    have r1 := hI1.stop
    have r2 := hI2.stop
    have B1 := H1.out.below hC
    have B2 := H2.out.below hC
    have C6 := Lib.hid (K6.out wx B1 B2)
    clear B1 B2 K6
    cases g0
    · go_wp2_with (first
          | (with_reducible refine hl_load_mid_g (by with_unfolding_all rfl) _ rfl P 6 rfl a'.stop r1 sa ?_)
          | (with_reducible refine hl_load_mid_g (by with_unfolding_all rfl) _ rfl Q 6 rfl b'.stop r2 sb ?_)
          | (with_reducible refine heql_g (by with_unfolding_all rfl) _ _ _ rfl _ _ _ rfl rfl Q5.out ?_)
          | ((go_at_call 39); refine C6.out.mono ?_; rintro r w7 ⟨rfl, hb7⟩; have hD := hC.trans (hb7.mono hC.size); have cd1 := (hI1.on hb7).hs oa'; have cd2 := (hI2.on hb7).hs ob'; have B3 := H3.out.below hD; have B4 := H4.out.below hD; have C7 := Lib.hid (K7.out w7 B3 B4); clear B3 B4)
          | ((go_at_call 40); refine C7.out.mono ?_; rintro r w8 ⟨rfl, hb8⟩; have hF := hD.trans (hb8.mono hD.size)))
      go_ret
      exact ⟨rfl, hC⟩
    cases g1
    · go_wp2_with (first
          | (with_reducible refine hl_load_mid_g (by with_unfolding_all rfl) _ rfl P 6 rfl a'.stop r1 sa ?_)
          | (with_reducible refine hl_load_mid_g (by with_unfolding_all rfl) _ rfl Q 6 rfl b'.stop r2 sb ?_)
          | (with_reducible refine heql_g (by with_unfolding_all rfl) _ _ _ rfl _ _ _ rfl rfl Q5.out ?_)
          | ((go_at_call 39); refine C6.out.mono ?_; rintro r w7 ⟨rfl, hb7⟩; have hD := hC.trans (hb7.mono hC.size); have cd1 := (hI1.on hb7).hs oa'; have cd2 := (hI2.on hb7).hs ob'; have B3 := H3.out.below hD; have B4 := H4.out.below hD; have C7 := Lib.hid (K7.out w7 B3 B4); clear B3 B4)
          | ((go_at_call 40); refine C7.out.mono ?_; rintro r w8 ⟨rfl, hb8⟩; have hF := hD.trans (hb8.mono hD.size)))
      go_ret
      exact ⟨rfl, hC⟩
    cases g2
    · go_wp2_with (first
          | (with_reducible refine hl_load_mid_g (by with_unfolding_all rfl) _ rfl P 6 rfl a'.stop r1 sa ?_)
          | (with_reducible refine hl_load_mid_g (by with_unfolding_all rfl) _ rfl Q 6 rfl b'.stop r2 sb ?_)
          | (with_reducible refine heql_g (by with_unfolding_all rfl) _ _ _ rfl _ _ _ rfl rfl Q5.out ?_)
          | ((go_at_call 39); refine C6.out.mono ?_; rintro r w7 ⟨rfl, hb7⟩; have hD := hC.trans (hb7.mono hC.size); have cd1 := (hI1.on hb7).hs oa'; have cd2 := (hI2.on hb7).hs ob'; have B3 := H3.out.below hD; have B4 := H4.out.below hD; have C7 := Lib.hid (K7.out w7 B3 B4); clear B3 B4)
          | ((go_at_call 40); refine C7.out.mono ?_; rintro r w8 ⟨rfl, hb8⟩; have hF := hD.trans (hb8.mono hD.size)))
      go_ret
      exact ⟨rfl, hC⟩
    cases g3
    · go_wp2_with (first
          | (with_reducible refine hl_load_mid_g (by with_unfolding_all rfl) _ rfl P 6 rfl a'.stop r1 sa ?_)
          | (with_reducible refine hl_load_mid_g (by with_unfolding_all rfl) _ rfl Q 6 rfl b'.stop r2 sb ?_)
          | (with_reducible refine heql_g (by with_unfolding_all rfl) _ _ _ rfl _ _ _ rfl rfl Q5.out ?_)
          | ((go_at_call 39); refine C6.out.mono ?_; rintro r w7 ⟨rfl, hb7⟩; have hD := hC.trans (hb7.mono hC.size); have cd1 := (hI1.on hb7).hs oa'; have cd2 := (hI2.on hb7).hs ob'; have B3 := H3.out.below hD; have B4 := H4.out.below hD; have C7 := Lib.hid (K7.out w7 B3 B4); clear B3 B4)
          | ((go_at_call 40); refine C7.out.mono ?_; rintro r w8 ⟨rfl, hb8⟩; have hF := hD.trans (hb8.mono hD.size)))
      go_ret
      exact ⟨rfl, hC⟩
    cases g4
    · go_wp2_with (first
          | (with_reducible refine hl_load_mid_g (by with_unfolding_all rfl) _ rfl P 6 rfl a'.stop r1 sa ?_)
          | (with_reducible refine hl_load_mid_g (by with_unfolding_all rfl) _ rfl Q 6 rfl b'.stop r2 sb ?_)
          | (with_reducible refine heql_g (by with_unfolding_all rfl) _ _ _ rfl _ _ _ rfl rfl Q5.out ?_)
          | ((go_at_call 39); refine C6.out.mono ?_; rintro r w7 ⟨rfl, hb7⟩; have hD := hC.trans (hb7.mono hC.size); have cd1 := (hI1.on hb7).hs oa'; have cd2 := (hI2.on hb7).hs ob'; have B3 := H3.out.below hD; have B4 := H4.out.below hD; have C7 := Lib.hid (K7.out w7 B3 B4); clear B3 B4)
          | ((go_at_call 40); refine C7.out.mono ?_; rintro r w8 ⟨rfl, hb8⟩; have hF := hD.trans (hb8.mono hD.size)))
      go_ret
      exact ⟨rfl, hC⟩
    cases g5
    · go_wp2_with (first
          | (with_reducible refine hl_load_mid_g (by with_unfolding_all rfl) _ rfl P 6 rfl a'.stop r1 sa ?_)
          | (with_reducible refine hl_load_mid_g (by with_unfolding_all rfl) _ rfl Q 6 rfl b'.stop r2 sb ?_)
          | (with_reducible refine heql_g (by with_unfolding_all rfl) _ _ _ rfl _ _ _ rfl rfl Q5.out ?_)
          | ((go_at_call 39); refine C6.out.mono ?_; rintro r w7 ⟨rfl, hb7⟩; have hD := hC.trans (hb7.mono hC.size); have cd1 := (hI1.on hb7).hs oa'; have cd2 := (hI2.on hb7).hs ob'; have B3 := H3.out.below hD; have B4 := H4.out.below hD; have C7 := Lib.hid (K7.out w7 B3 B4); clear B3 B4)
          | ((go_at_call 40); refine C7.out.mono ?_; rintro r w8 ⟨rfl, hb8⟩; have hF := hD.trans (hb8.mono hD.size)))
      go_ret
      exact ⟨rfl, hC⟩
    cases g6
    · go_wp2_with (first
          | (with_reducible refine hl_load_mid_g (by with_unfolding_all rfl) _ rfl P 6 rfl a'.stop r1 sa ?_)
          | (with_reducible refine hl_load_mid_g (by with_unfolding_all rfl) _ rfl Q 6 rfl b'.stop r2 sb ?_)
          | (with_reducible refine heql_g (by with_unfolding_all rfl) _ _ _ rfl _ _ _ rfl rfl Q5.out ?_)
          | ((go_at_call 39); refine C6.out.mono ?_; rintro r w7 ⟨rfl, hb7⟩; have hD := hC.trans (hb7.mono hC.size); have cd1 := (hI1.on hb7).hs oa'; have cd2 := (hI2.on hb7).hs ob'; have B3 := H3.out.below hD; have B4 := H4.out.below hD; have C7 := Lib.hid (K7.out w7 B3 B4); clear B3 B4)
          | ((go_at_call 40); refine C7.out.mono ?_; rintro r w8 ⟨rfl, hb8⟩; have hF := hD.trans (hb8.mono hD.size)))
      go_ret
      exact ⟨rfl, hD⟩
    cases g7
    · go_wp2_with (first
          | (with_reducible refine hl_load_mid_g (by with_unfolding_all rfl) _ rfl P 6 rfl a'.stop r1 sa ?_)
          | (with_reducible refine hl_load_mid_g (by with_unfolding_all rfl) _ rfl Q 6 rfl b'.stop r2 sb ?_)
          | (with_reducible refine heql_g (by with_unfolding_all rfl) _ _ _ rfl _ _ _ rfl rfl Q5.out ?_)
          | ((go_at_call 39); refine C6.out.mono ?_; rintro r w7 ⟨rfl, hb7⟩; have hD := hC.trans (hb7.mono hC.size); have cd1 := (hI1.on hb7).hs oa'; have cd2 := (hI2.on hb7).hs ob'; have B3 := H3.out.below hD; have B4 := H4.out.below hD; have C7 := Lib.hid (K7.out w7 B3 B4); clear B3 B4)
          | ((go_at_call 40); refine C7.out.mono ?_; rintro r w8 ⟨rfl, hb8⟩; have hF := hD.trans (hb8.mono hD.size)))
      go_ret
      exact ⟨rfl, hF⟩
    go_wp2_with (first
      | (with_reducible refine hl_load_mid_g (by with_unfolding_all rfl) _ rfl P 6 rfl a'.stop r1 sa ?_)
      | (with_reducible refine hl_load_mid_g (by with_unfolding_all rfl) _ rfl Q 6 rfl b'.stop r2 sb ?_)
      | (with_reducible refine heql_g (by with_unfolding_all rfl) _ _ _ rfl _ _ _ rfl rfl Q5.out ?_)
      | ((go_at_call 39); refine C6.out.mono ?_; rintro r w7 ⟨rfl, hb7⟩; have hD := hC.trans (hb7.mono hC.size); have cd1 := (hI1.on hb7).hs oa'; have cd2 := (hI2.on hb7).hs ob'; have B3 := H3.out.below hD; have B4 := H4.out.below hD; have C7 := Lib.hid (K7.out w7 B3 B4); clear B3 B4)
      | ((go_at_call 40); refine C7.out.mono ?_; rintro r w8 ⟨rfl, hb8⟩; have hF := hD.trans (hb8.mono hD.size)))
    go_ret
    exact ⟨rfl, hF⟩
theorem ms_ext (a b : Ms) : a = b ↔ a.kind = b.kind ∧ a.ver = b.ver ∧ a.height = b.height ∧ a.serv = b.serv ∧ a.nb = b.nb ∧ a.stop = b.stop ∧ a.names = b.names ∧ a.heads = b.heads := by
  obtain ⟨k, ve, se, he, nb, ns, st, hs⟩ := a
  obtain ⟨k2, ve2, se2, he2, nb2, ns2, st2, hs2⟩ := b
  constructor
  · intro h; cases h; exact ⟨rfl, rfl, rfl, rfl, rfl, rfl, rfl, rfl⟩
  · rintro ⟨h0, h1, h2, h3, h4, h5, h6, h7⟩
    simp only at h0 h1 h2 h3 h4 h5 h6 h7
    subst h0 h1 h2 h3 h4 h5 h6 h7
    rfl
instance msDec (a b : Ms) : Decidable (a = b) := decidable_of_iff _ (ms_ext a b).symm
theorem same8_at (a b : Mm) (A B : Ms) (w : World) (hA : Lies w a A) (hB : Lies w b B) (g : Bool) (hg : decide (A.bare = B.bare) = g) : Calls Tryd.prog 18 #[.agg (mmA a), .agg (mmA b)] w fun r w' => r = .returned (.bool g) ∧ Below w.heap.size w w' := by
  have hA' := hA.bare
  have hB' := hB.bare
  have e : g = ((a.bare.kind == b.bare.kind) && (a.bare.ver == b.bare.ver) && (a.bare.height == b.bare.height) && (a.bare.serv == b.bare.serv) && (a.bare.nb == b.bare.nb) && (a.bare.stop == b.bare.stop) && decide (A.bare.names = B.bare.names) && decide (A.bare.heads = B.bare.heads)) := by
    rw [← hg, hA'.kind, hA'.ver, hA'.height, hA'.serv, hA'.nb, hA'.stop, hB'.kind, hB'.ver, hB'.height, hB'.serv, hB'.nb, hB'.stop, Bool.eq_iff_iff]
    simp only [Bool.and_eq_true, decide_eq_true_eq, beq_iff_eq, and_assoc]
    exact ms_ext _ _
  rw [e]
  exact same_cells a b _ _ hA.mok hB.mok rfl rfl A.bare.names B.bare.names A.bare.heads B.bare.heads w hA'.n1 hB'.n1 hA'.l1 hA'.l2 hA'.n2 hB'.n2 hA'.names hB'.names hA'.heads hB'.heads _ _ _ _ _ _ _ _ rfl rfl rfl rfl rfl rfl rfl rfl
end Go.Proofs.YtmpllagaeoolaaaDoor
/-
  Layer 8's laws: alive, great.
-/
namespace Go.Proofs.YtmpllagaeoolaaaDoor
open Go.RowKit Mem Sc
def mVerack : Ms := ⟨2, 0, 0, 0, 0, [], z32, []⟩
theorem verack_P : mVerack.P := .inl rfl
theorem verack_lies (w : World) : Lies w (mmZ 2) mVerack := ⟨rfl, rfl, rfl, rfl, rfl, rfl, rfl, Nat.zero_le _, names_nil _ _, rfl, Nat.zero_le _, heads_nil _ _, ⟨by simp [mVerack], z32_length, by simp [mVerack]⟩⟩
set_option maxRecDepth 100000 in
set_option maxHeartbeats 1000000 in
theorem alive8 (w : World) (hT : Tab w) (hS : TabS w) : Calls Tryd.prog 9 #[] w fun r w' => r = .returned (.bool true) ∧ Below w.heap.size w w' := by
  obtain ⟨t, ht⟩ : ∃ t, t = txt mVerack.env.enc := ⟨_, rfl⟩
  have K1 : Hid (∀ w, Tab w → TabS w → Calls Tryd.prog 12 #[.agg (mmA (mmZ 2))] w fun e w' => e = .returned (.tuple #[.string t, .int .i64 0]) ∧ Below w.heap.size w w') := Lib.hid (fun w hT hS => by rw [ht]; exact bytes8_yes (mmZ 2) mVerack verack_P w hT hS (verack_lies w))
  have K2 : Hid (∀ w, Calls Tryd.prog 17 #[.string ⟨#[118, 101, 114, 97, 99, 107]⟩, .string ⟨#[]⟩] w fun e w' => e = .returned (.string t) ∧ Below w.heap.size w w') := Lib.hid (fun w => by rw [ht]; exact rbytes7 [118, 101, 114, 97, 99, 107] [] (by decide) (by decide) w)
  have K3 : Hid (∀ w, TabS w → Calls Tryd.prog 21 #[.string ⟨#[105, 110, 118]⟩] w fun e w' => e = .returned (.int .i64 5) ∧ w = w') := Lib.hid (fun w hS => kind_at (txt [105, 110, 118]) w hS)
  have HL := Lib.hid (mmZ_lit 2)
  have HT := Lib.hid hT
  have HS := Lib.hid hS
  clear ht hT hS
  rw [HL.out] at K1
  go_enter Tryd.func9, Tryd.ntmps9
  go_wp2_with fail
  refine (K1.out w HT.out HS.out).mono ?_
  rintro r w1 ⟨rfl, hB⟩
  go_wp2_with fail
  refine (K2.out w1).mono ?_
  rintro r w2 ⟨rfl, hb2⟩
  replace hB := hB.trans (hb2.mono hB.size)
  clear hb2
  have C3 := Lib.hid (K3.out w2 (HS.out.below hB))
  go_wp2_with fail
  refine C3.out.mono ?_
  rintro r w3 ⟨rfl, rfl⟩
  go_wp2_with fail
  go_ret
  exact ⟨rfl, hB⟩
def greatM (m : Mm) : Bool := decide (200 < (m.ns.n : Int)) || decide (100 < (m.hs.n : Int))
set_option maxRecDepth 100000 in
set_option maxHeartbeats 1000000 in
theorem great8_at (m : Mm) (ho : m.ok) (g : Bool) (hg : greatM m = g) (w : World) : Calls Tryd.prog 10 #[.agg (mmA m)] w fun r w' => r = .returned (.bool g) ∧ Below w.heap.size w w' := by
  unfold greatM at hg
  have hH := mm_new w m
  have hB : Below w.heap.size w (w.alloc (.cells (mmA m) 27)) := (Below.refl _ _).alloc (Nat.le_refl _) _
  subst hg
  cases h1 : decide (200 < (m.ns.n : Int))
  · cases h2 : decide (100 < (m.hs.n : Int))
    all_goals
      go_enter Tryd.func10, Tryd.ntmps10
      go_upto_region 1 with fail
      obtain ⟨P, hPe⟩ : ∃ P, P = w.heap.size := ⟨_, rfl⟩
      rw [← hPe] at hH ⊢
      clear hPe
      generalize World.alloc _ _ = w1 at *
      have c5 := hH.ns
      have c8 := hH.hs ho
      go_wp2_with fail
      go_ret
      exact ⟨rfl, hB⟩
  · go_enter Tryd.func10, Tryd.ntmps10
    go_upto_region 1 with fail
    obtain ⟨P, hPe⟩ : ∃ P, P = w.heap.size := ⟨_, rfl⟩
    rw [← hPe] at hH ⊢
    clear hPe
    generalize World.alloc _ _ = w1 at *
    have c5 := hH.ns
    go_wp2_with fail
    go_ret
    exact ⟨rfl, hB⟩
end Go.Proofs.YtmpllagaeoolaaaDoor
