import Derived.Test.YthcebnfdapcllaaGreatDoorRBunQ8
import Derived.Test.YthcebnfdapcllaaGreatDoorRScNames
import Derived.Deep.MidRow
import Derived.Test.YthcebnfdapcllaaGreatDoorRScEye
import Derived.IntWalk
namespace Go.Proofs.YthcebnfdapcllaaGreatDoor
open Go.RowKit Mem Sc
theorem IntsAt.new (w : World) {b : Nat} {v : Value} {l : List UInt8} (h : PenAt w b v l) (cs : Array Value) (ns : List Int) (t : TypeId) (hcs : cs = (ns.map (Value.int .i64)).toArray) : IntsAt (w.alloc (.cells cs t)) b v (some ⟨w.heap.size, 0, none⟩) ns := fun _ => by
  have hlt := h.lt
  refine ⟨w.heap.size, 0, rfl, by omega, fun e => by have := (h.ownLt e).2; omega, by rw [World.size_alloc]; omega, fun i hi => ?_⟩
  rw [(Has.new cs t).cell, hcs]
  simp [hi]
theorem nums_one (k : Nat) (x : Int) : nums k [x] = num k x := by simp [nums]
theorem put1 (b : Nat) (v : Value) (l : List UInt8) (size : Int) (m : Nat) (hm : near size 8 = m) (x : Int) (w : World) (h : PenAt w b v l) (hsz : l.length ≤ 70368744177600) :
    Calls Tryz.prog 89 #[.pointer (some ⟨b, 0, none⟩), .int .i64 size, .slice (some ⟨w.heap.size, 0, none⟩) 1 1] (w.alloc (.cells #[.int .i64 x] 3)) fun r w' => PenPost w b v (l ++ num m x) r w' := by
  subst hm
  have hb : Below w.heap.size w (w.alloc (.cells #[.int .i64 x] 3)) := (Below.refl _ _).alloc (Nat.le_refl _) _
  refine (put_at b v l size _ [x] 1 1 rfl _ (h.below hb) (IntsAt.new w h _ [x] _ rfl) (by omega)).mono ?_
  rintro r w' ⟨v', rfl, hP, hS⟩
  rw [nums_one] at hP
  exact ⟨v', rfl, hP, hS.below hb⟩
theorem put1_at (b : Nat) (v : Value) (l : List UInt8) (size : Int) (m : Nat) (hm : near size 8 = m) (x : Int) (w : World) (H : Nat) (hH : w.heap.size = H) (h : PenAt w b v l) (hsz : l.length ≤ 70368744177600) :
    Calls Tryz.prog 89 #[.pointer (some ⟨b, 0, none⟩), .int .i64 size, .slice (some ⟨H, 0, none⟩) 1 1] (w.alloc (.cells #[.int .i64 x] 3)) fun r w' => PenPost w b v (l ++ num m x) r w' := by
  subst hH; exact put1 b v l size m hm x w h hsz
end Go.Proofs.YthcebnfdapcllaaGreatDoor
namespace Go.Proofs.YthcebnfdapcllaaGreatDoor
open Go.RowKit Mem Sc
def NamesAt (w : World) (a : Option Addr) (ls : List (List UInt8)) : Prop :=
  0 < ls.length → ∃ ab ao, a = some ⟨ab, ao, none⟩ ∧ ab < w.heap.size ∧ ∀ i (hi : i < ls.length), ls[i].length = 32 ∧ w.rangeAt ab (ao + i * 32) (Lib.byteCells ls[i])
def Apart (b : Nat) (v : Value) (a : Option Addr) : Prop := ∀ p, a = some p → p.block ≠ b ∧ v.ownBlock ≠ some p.block
theorem names_take (ls : List (List UInt8)) (k : Nat) (hk : k < ls.length) : (ls.take (k + 1)).flatten = (ls.take k).flatten ++ ls[k] := by
  rw [List.take_succ_eq_append_getElem hk, List.flatten_append]; simp
theorem flatten_le (ls : List (List UInt8)) (h : ∀ x ∈ ls, x.length = 32) (k : Nat) : (ls.take k).flatten.length ≤ 32 * k := by
  rw [List.length_flatten]
  have : ∀ (m : List (List UInt8)), (∀ x ∈ m, x.length = 32) → (m.map List.length).sum = 32 * m.length := by
    intro m hm
    induction m with
    | nil => rfl
    | cons x m ih =>
      simp only [List.map_cons, List.sum_cons, List.length_cons]
      rw [ih (fun y hy => hm y (by simp [hy])), hm x (by simp)]; omega
  rw [this _ (fun x hx => h x (List.mem_of_mem_take hx)), List.length_take]
  exact Nat.mul_le_mul_left _ (Nat.min_le_left _ _)
set_option maxRecDepth 100000 in
set_option maxHeartbeats 1000000 in
theorem pnames_at (b : Nat) (v : Value) (l : List UInt8) (a : Option Addr) (ls : List (List UInt8)) (n c : Nat) (hn : n = ls.length) (w : World) (h : PenAt w b v l) (hA : NamesAt w a ls) (hap : 0 < ls.length → Apart b v a) (h32 : ∀ x ∈ ls, x.length = 32) (hsz : l.length + 32 * n ≤ 70368744177664) :
    Calls Tryz.prog 90 #[.pointer (some ⟨b, 0, none⟩), .slice a n c] w fun r w' => PenPost w b v (l ++ ls.flatten) r w' := by
  have HN := Lib.hid hn
  have HA := Lib.hid hA
  have HP := Lib.hid hap
  have H32 := Lib.hid h32
  clear hn hA hap h32
  go_enter Tryz.func90, Tryz.ntmps90
  go_wp2_with fail
  go_loopw [10] (fun i wr => ∃ (k : Nat) (v1 : Value), k ≤ n ∧ i = .int .i64 k ∧ PenAt wr b v1 (l ++ (ls.take k).flatten) ∧ PenStep w wr b v v1) (fun i _ => n - (intOf i).toNat)
  case atStart => exact ⟨0, v, Nat.zero_le _, rfl, by simpa using h, PenStep.refl _ _ _⟩
  case round =>
    obtain ⟨k, v1, hk, rfl, hP, hS⟩ := hrel
    by_cases hlt : k < n
    · have hkl : k < ls.length := by rw [← HN.out]; exact hlt
      obtain ⟨ab, ao, rfl, habl, hc⟩ := HA.out (by omega)
      obtain ⟨hab, hav⟩ := HP.out (by omega) _ rfl
      obtain ⟨hx32, hcx⟩ := hc k hkl
      have hr : wr.rangeAt ab (ao + k * 32) (Lib.byteCells ls[k]) := fun j u hu => (hS.cell (a := ⟨ab, ao + k * 32 + j, none⟩) habl hab hav).trans (hcx j u hu)
      have hnx := names_take ls k hkl
      have hle := flatten_le ls H32.out k
      generalize ls[k] = x at *
      have hsx : (Lib.byteCells x).length = 32 := by rw [Lib.byteCells_length, hx32]
      have HX := Lib.hid hsx
      have HNX := Lib.hid hnx
      clear hsx hc hcx hnx
      obtain ⟨i, z, hi, hz, hi1, hi2, hi3⟩ := byte_info
      have hone := bytesV_one x
      have hsz32 : (bytesV x).size = 32 := hv_size hx32
      have h0s : h0.size = 32 := rfl
      obtain ⟨L, hL⟩ : ∃ L, L = l ++ (ls.take k).flatten := ⟨_, rfl⟩
      have hLn : L.length + 32 ≤ 70368744177664 := by rw [hL]; simp only [List.length_append]; omega
      rw [← hL] at hP
      have hnew : l ++ (ls.take (k + 1)).flatten = L ++ x := by rw [HNX.out, ← List.append_assoc, ← hL]
      have HNEW := Lib.hid hnew
      clear hL hnew HNX
      have hP0 := hP.c0
      have HS := Lib.hid hsz32
      have H0 := Lib.hid h0s
      have HX32 := Lib.hid hx32
      clear hsz32 h0s hx32
      go_wp2_with (first
        | (with_reducible refine hl_load_mid rfl _ rfl ab (ao + k * 32) rfl x hr HX.out ?_)
        | (with_reducible refine hl_store rfl _ _ rfl _ _ (bytesV x) rfl rfl rfl HS.out hone h0 (h0_new _ _) H0.out ?_))
      generalize hw3 : World.setRow _ _ _ = w3
      have hX3 : Has w3 wr.heap.size (bytesV x) 28 := by rw [← hw3]; exact (h0_new _ _).row _
      have hB3 : Below wr.heap.size wr w3 := by rw [← hw3]; exact below_setRow ((Below.refl _ _).alloc (Nat.le_refl _) _) (Nat.le_refl _) _
      clear hw3
      have hP3 := hP.below hB3
      have c1 := hP3.c0
      have hne : some b ≠ v1.ownBlock := fun e => by have := (hP3.ownLt e.symm).1; omega
      have hPl := hP3.lt
      have h63 : L.length + 32 ≤ maxLen := by unfold maxLen; omega
      have hby : (L.length + 32) * 1 ≤ 140737488355328 := by omega
      have hbase : b + 1 ≤ w3.drew.heap.size := by show b + 1 ≤ w3.heap.size; omega
      have hnl : (Lib.byteCells x).length = 32 * 1 := HX.out
      have hnews : ∀ j u, (Lib.byteCells x)[j]? = some u → w3.drew.cell? ((⟨wr.heap.size, 0, none⟩ : Addr).add j) = some u := by
        rw [← bytesV_list]; exact World.news_of_block (Has.drew hX3).out
      have HNL := Lib.hid hnl
      have HNW := Lib.hid hnews
      clear hnl hnews
      go_region_law
        ((refine step_append_lies _ (by rfl) _ _ 118 (by rfl) (b + 1) 5 i z 1 1 Tryz.underlying118 hi hz hi1 hi2 hi3 (by decide) v1 L.length (Lib.byteCells L) (by rfl) hP3.own.drew
              ⟨wr.heap.size, 0, none⟩ 32 32 (Lib.byteCells x) (by rfl) HNL.out HNW.out (Lib.byteCells_one _) (by decide) h63 hby hbase w3.heap.size (by rfl) ?_; intro g cap w4 hown4 hgr4 hat4 hlt4; have hc4 := gb_has hgr4 hP3.cell.drew hne; have c4 := hc4.cell 0; have f4 := hc4.free 0))
      all_goals
        have hBd : Below wr.heap.size wr w3.drew := hB3.drew
        obtain ⟨hP5, hS5⟩ := hP.put (x := x) hBd (by rw [HX32.out]; exact hown4) hgr4 (fun k' hk' => by
          rcases hat4 with e | e
          · exact .inl (e.trans hk')
          · obtain rfl : g = k' := Option.some.inj hk'
            have := hB3.size
            exact .inr (by omega))
        go_wp2_with fail
        go_roundw
        case rel => exact ⟨k + 1, _, by omega, by go_num, by rw [HNEW.out]; exact hP5, hS.trans hS5⟩
        case measure => simp [intOf]; omega
    · obtain rfl : k = n := by omega
      rw [HN.out, List.take_length] at hP
      go_wp2_with fail
      go_end0
      exact ⟨v1, rfl, hP, hS⟩
theorem conv_owned {w : World} {base : Nat} {v : Value} {l : List UInt8} (h : w.ownsRow base 5 1 v l.length (Lib.byteCells l)) : (Go.convert 118 9 v).run Tryz.prog w = .ok (.string ⟨l.toArray⟩) w := by
  rcases h.2 with ⟨rfl, h0⟩ | ⟨g, cap, cur, rfl, hb, hg, hn, hm, hcs, ht⟩
  · obtain rfl : l = [] := List.eq_nil_of_length_eq_zero h0
    kernel_rfl
  · have hH : Has w g cur 5 := hg
    refine run_convert_bytes_back w 118 9 5 ⟨g, 0, none⟩ cap l Tryz.underlying118 Tryz.underlying5 Tryz.underlying9 (fun j hj => ?_)
    have e : cur[j]? = (Lib.byteCells l)[j]? := by rw [← ht, List.getElem?_take_of_lt (by omega), Array.getElem?_toList]
    rw [Addr.add_mid, Nat.zero_add, hH.cell j, e]
    simp [Lib.byteCells, hj]
set_option maxHeartbeats 400000 in
theorem text_at (b : Nat) (v : Value) (l : List UInt8) (w : World) (h : PenAt w b v l) : Calls Tryz.prog 65 #[.pointer (some ⟨b, 0, none⟩)] w fun r w' => r = .returned (.string ⟨l.toArray⟩) ∧ w = w' := by
  have c0 := h.c0
  have hcv : (Go.convert 118 9 v).run Tryz.prog w = .ok (.string ⟨l.toArray⟩) w := by
    exact conv_owned h.own
  go_enter Tryz.func65, Tryz.ntmps65
  go_wp2_with fail
  go_ret
  exact ⟨rfl, rfl⟩
end Go.Proofs.YthcebnfdapcllaaGreatDoor
namespace Go.Proofs.YthcebnfdapcllaaGreatDoor
open Go.RowKit Mem Sc
def txt (l : List UInt8) : ByteArray := ⟨l.toArray⟩
theorem txt_list (l : List UInt8) : (txt l).data.toList = l := rfl
end Go.Proofs.YthcebnfdapcllaaGreatDoor
namespace Go.Proofs.YthcebnfdapcllaaGreatDoor
open Go.RowKit Mem Sc
end Go.Proofs.YthcebnfdapcllaaGreatDoor
namespace Go.Proofs.YthcebnfdapcllaaGreatDoor
open Go.RowKit Mem Sc
end Go.Proofs.YthcebnfdapcllaaGreatDoor
namespace Go.Proofs.YthcebnfdapcllaaGreatDoor
open Go.RowKit Mem Sc
theorem pen_below {w w' : World} {b : Nat} {v v' : Value} {l : List UInt8} {W : World} (hB : Below W.heap.size W w) (hb : W.heap.size ≤ b) (hp : PenAt w b v l) (h : PenStep w w' b v v') : Below W.heap.size W w' :=
  hB.trans ((h.toBelow hp).mono hb)
theorem text_txt (b : Nat) (v : Value) (l : List UInt8) (w : World) (h : PenAt w b v l) : Calls Tryz.prog 65 #[.pointer (some ⟨b, 0, none⟩)] w fun r w' => r = .returned (.string (txt l)) ∧ w = w' := text_at b v l w h
end Go.Proofs.YthcebnfdapcllaaGreatDoor
