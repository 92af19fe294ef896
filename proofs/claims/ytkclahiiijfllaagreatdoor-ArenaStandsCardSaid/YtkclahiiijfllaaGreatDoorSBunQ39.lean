import Derived.Test.YtkclahiiijfllaaGreatDoorSIdm
import Derived.Test.YtkclahiiijfllaaGreatDoorSAnMap
import Derived.Test.YtkclahiiijfllaaGreatDoorSArMath
import Derived.Test.YtkclahiiijfllaaGreatDoorSBunQ38
import Derived.Test.YtkclahiiijfllaaGreatDoorSBunQ32
import Derived.Test.YtkclahiiijfllaaGreatDoorSBunQ35
import Derived.Test.YtkclahiiijfllaaGreatDoorSBunQ23
import Derived.Test.YtkclahiiijfllaaGreatDoorSBunQ16
import Derived.Test.YtkclahiiijfllaaGreatDoorSHdEq
import Derived.Test.YtkclahiiijfllaaGreatDoorSBunQ20
set_option maxRecDepth 100000
set_option maxHeartbeats 4000000
namespace Go.Proofs.YtkclahiiijfllaaGreatDoor.An
open Go.RowKit Mem Sc
open Ar (Ent Ru entZ)
structure En where
 h : Hd
 id : List UInt8
 up : Int
 ht : Int
 wk : Nat
def En.ok (e : En) : Prop := e.h.ok ∧ e.id.length = 32
def enC (e : En) : List Value := hdC e.h ++ (Lib.byteCells e.id ++ (.int .i64 e.up :: .int .i64 e.ht :: (NN.numC e.wk).toList))
def enA (e : En) : Array Value := (enC e).toArray
def enZ : En := ⟨hdZ, z32, 0, 0, 0⟩
def enN : En := ⟨hdZ, z32, -1, 0, 0⟩
theorem qbu_ {e : En} (h : e.ok) : (enC e).length = 106 := by
 simp only [enC, List.length_append, qj_ h.1, qg_ h.2, List.length_cons, Array.length_toList, NN.qch_]
theorem qbx_ {e : En} (h : e.ok) : (enA e).size = 106 := by show (enC e).toArray.size = 106; rw [List.size_toArray]; exact qbu_ h
theorem num_one (n : Nat) : ∀ v ∈ (NN.numC n).toList, v.oneCell' = true := fun v hv => by
 have := NN.qjw_ n
 rw [Array.all_eq_true_iff_forall_mem] at this
 exact this v (by simpa using hv)
theorem qwp_ (e : En) : ∀ v ∈ enC e, v.oneCell' = true := by
 intro v hv
 simp only [enC, List.mem_cons, List.mem_append] at hv
 rcases hv with hv | hv | rfl | rfl | hv
 ·exact qij_ _ v hv
 ·exact Lib.byteCells_one _ v hv
 ·rfl
 ·rfl
 ·exact num_one _ v hv
theorem qwq_ (e : En) : (enA e).all (·.oneCell') = true := all_oneCell_toArray (qwp_ e)
theorem eninfo : (Tryz.prog.info? 44).map (·.size) = some 106 := by kernel_rfl
theorem enZ_ok : enZ.ok := ⟨hdZ_ok, rfl⟩
def EnAt (w : World) (k : Nat) (e : En) : Prop := Has w k (enA e) 44
def bkC (e : En) (s : Sp) : List Value := enC e ++ spC s
theorem qdt_ {e : En} {s : Sp} (h : e.ok) (hs : s.ok) : (bkC e s).length = 144 := by simp only [bkC, List.length_append, qbu_ h, qbs_ hs]
theorem bkC_one (e : En) (s : Sp) : ∀ v ∈ bkC e s, v.oneCell' = true := fun v hv => by
 rcases List.mem_append.1 hv with h | h
 ·exact qwp_ e v h
 ·exact qwj_ s v h
def arC (p : NN.Pr) (room : Nat) (v : Value) (mb : Nat) : List Value := NN.prC p ++ [.int .i64 (room : Int), v, .map (some mb)]
def arA (p : NN.Pr) (room : Nat) (v : Value) (mb : Nat) : Array Value := (arC p room v mb).toArray
theorem qbi_ {p : NN.Pr} (h : p.ok) : (NN.prC p).length = 83 := by
 have := NN.qal_ h
 unfold NN.prA at this
 simpa using this
theorem qhl_ : (Lib.byteCells z32).length = 32 := rfl
theorem qrk_ (parts : List (Nat × Value)) : Tryz.prog.built 44 parts = Instr.fill ((#[(0, 68), (68, 32), (100, 1), (101, 1), (102, 4)] : Array (Nat × Nat))[·]?) (enA enZ) parts := by kernel_rfl
theorem qhm_ (e : En) (h : e.ok) : Tryz.prog.built 44 [(0, .agg (hdA e.h)), (1, .agg (bytesV e.id)), (2, Value.int .i64 e.up), (3, Value.int .i64 e.ht), (4, .agg (NN.numC e.wk))] = some (enA e) := by
 rw [qrk_]
 have h0 := qj_ h.1
 have h1 := qg_ h.2
 have z0 := qj_ hdZ_ok
 have z1 := qhl_
 unfold enA enC
 rw [show hdC enZ.h ++ (Lib.byteCells enZ.id ++ (Value.int .i64 enZ.up :: Value.int .i64 enZ.ht :: (NN.numC enZ.wk).toList)) = [] ++ (hdC hdZ ++ (Lib.byteCells z32 ++ (Value.int .i64 0 :: Value.int .i64 0 :: (NN.numC 0).toList))) from rfl,
  qbb_ (off := 0) (n := 68) [] (hdC hdZ) _ (hdC e.h) rfl rfl z0 rfl h0, List.nil_append,
  qbb_ (off := 68) (n := 32) (hdC e.h) (Lib.byteCells z32) _ (Lib.byteCells e.id) rfl h0 z1 (qac_ e.id ▸ rfl) h1,
  show hdC e.h ++ (Lib.byteCells e.id ++ (Value.int .i64 0 :: Value.int .i64 0 :: (NN.numC 0).toList)) = (hdC e.h ++ Lib.byteCells e.id) ++ ([Value.int .i64 0] ++ ([Value.int .i64 0] ++ (NN.numC 0).toList)) by simp,
  qbb_ (off := 100) (n := 1) (hdC e.h ++ Lib.byteCells e.id) [Value.int .i64 0] _ [Value.int .i64 e.up] rfl (by simp [h0, h1]) rfl rfl rfl,
  show (hdC e.h ++ Lib.byteCells e.id) ++ ([Value.int .i64 e.up] ++ ([Value.int .i64 0] ++ (NN.numC 0).toList)) = (hdC e.h ++ Lib.byteCells e.id ++ [Value.int .i64 e.up]) ++ ([Value.int .i64 0] ++ (NN.numC 0).toList) by simp,
  qbb_ (off := 101) (n := 1) (hdC e.h ++ Lib.byteCells e.id ++ [Value.int .i64 e.up]) [Value.int .i64 0] _ [Value.int .i64 e.ht] rfl (by simp [h0, h1]) rfl rfl rfl,
  show (hdC e.h ++ Lib.byteCells e.id ++ [Value.int .i64 e.up]) ++ ([Value.int .i64 e.ht] ++ (NN.numC 0).toList) = (hdC e.h ++ Lib.byteCells e.id ++ [Value.int .i64 e.up, Value.int .i64 e.ht]) ++ ((NN.numC 0).toList ++ []) by simp,
  qbb_ (off := 102) (n := 4) (hdC e.h ++ Lib.byteCells e.id ++ [Value.int .i64 e.up, Value.int .i64 e.ht]) (NN.numC 0).toList [] (NN.numC e.wk).toList rfl (by simp [h0, h1]) rfl (by simp [Value.cells]) rfl, qkn_]
 simp
theorem qux_ (e : En) (h : e.ok) (h0 : e.ht = 0) : Tryz.prog.built 44 [(0, .agg (hdA e.h)), (1, .agg (bytesV e.id)), (2, Value.int .i64 e.up), (4, .agg (NN.numC e.wk))] = some (enA e) := by
 have hh := qhm_ e h
 rw [qrk_] at hh ⊢
 rw [← hh, h0]
 have e0 := qj_ h.1
 have e1 := qg_ h.2
 have z0 := qj_ hdZ_ok
 have z1 := qhl_
 have st : ∀ rest, Instr.fill ((#[(0, 68), (68, 32), (100, 1), (101, 1), (102, 4)] : Array (Nat × Nat))[·]?) (enA enZ) ((0, .agg (hdA e.h)) :: (1, .agg (bytesV e.id)) :: (2, Value.int .i64 e.up) :: rest) = Instr.fill ((#[(0, 68), (68, 32), (100, 1), (101, 1), (102, 4)] : Array (Nat × Nat))[·]?) (hdC e.h ++ (Lib.byteCells e.id ++ ([Value.int .i64 e.up] ++ ([Value.int .i64 0] ++ (NN.numC 0).toList)))).toArray rest := fun rest => by
  unfold enA enC
  rw [show hdC enZ.h ++ (Lib.byteCells enZ.id ++ (Value.int .i64 enZ.up :: Value.int .i64 enZ.ht :: (NN.numC enZ.wk).toList)) = [] ++ (hdC hdZ ++ (Lib.byteCells z32 ++ (Value.int .i64 0 :: Value.int .i64 0 :: (NN.numC 0).toList))) from rfl,
   qbb_ (off := 0) (n := 68) [] (hdC hdZ) _ (hdC e.h) rfl rfl z0 rfl e0, List.nil_append,
   qbb_ (off := 68) (n := 32) (hdC e.h) (Lib.byteCells z32) _ (Lib.byteCells e.id) rfl e0 z1 (qac_ e.id ▸ rfl) e1,
   show hdC e.h ++ (Lib.byteCells e.id ++ (Value.int .i64 0 :: Value.int .i64 0 :: (NN.numC 0).toList)) = (hdC e.h ++ Lib.byteCells e.id) ++ ([Value.int .i64 0] ++ ([Value.int .i64 0] ++ (NN.numC 0).toList)) by simp,
   qbb_ (off := 100) (n := 1) (hdC e.h ++ Lib.byteCells e.id) [Value.int .i64 0] _ [Value.int .i64 e.up] rfl (by simp [e0, e1]) rfl rfl rfl]
  simp
 rw [st, st]
 rw [show hdC e.h ++ (Lib.byteCells e.id ++ ([Value.int .i64 e.up] ++ ([Value.int .i64 0] ++ (NN.numC 0).toList))) = (hdC e.h ++ Lib.byteCells e.id ++ [Value.int .i64 e.up]) ++ ([Value.int .i64 0] ++ (NN.numC 0).toList) by simp,
  qbb_ (i := 3) (off := 101) (n := 1) (hdC e.h ++ Lib.byteCells e.id ++ [Value.int .i64 e.up]) [Value.int .i64 0] _ [Value.int .i64 0] rfl (by simp [e0, e1]) rfl rfl rfl]
theorem qrl_ : Tryz.prog.built 44 [(2, Value.int .i64 (-1))] = some (enA enN) := by kernel_rfl
theorem qzx_ (parts : List (Nat × Value)) : Tryz.prog.built 90 parts = Instr.fill ((#[(0, 106), (106, 38)] : Array (Nat × Nat))[·]?) (bkC enZ spZ).toArray parts := by kernel_rfl
theorem qnl_ (e : En) (s : Sp) (h : e.ok) (hs : s.ok) : Tryz.prog.built 90 [(0, .agg (enA e)), (1, .agg (spA s))] = some (bkC e s).toArray := by
 rw [qzx_]
 have h0 := qbu_ h
 have h1 := qbs_ hs
 unfold bkC
 rw [show enC enZ ++ spC spZ = [] ++ (enC enZ ++ spC spZ) from rfl,
  qbb_ (off := 0) (n := 106) [] (enC enZ) _ (enC e) rfl rfl (qbu_ enZ_ok) rfl h0,
  show [] ++ (enC e ++ spC spZ) = enC e ++ (spC spZ ++ []) by simp,
  qbb_ (off := 106) (n := 38) (enC e) (spC spZ) [] (spC s) rfl h0 (qbs_ spZ_ok) rfl h1, qkn_]
 simp
def prZ : NN.Pr := ⟨0, 0, 0, 0, false, Value.slice none 0 0 :: Value.slice none 0 0 :: ((NN.numC 0).toList ++ ((NN.numC 0).toList ++ hdC hdZ))⟩
theorem prZ_ok : prZ.ok := rfl
theorem qzy_ (parts : List (Nat × Value)) : Tryz.prog.built 85 parts = Instr.fill ((#[(0, 83), (83, 1), (84, 1), (85, 1)] : Array (Nat × Nat))[·]?) (NN.prC prZ ++ [Value.int .i64 0, Value.slice none 0 0, Value.map none]).toArray parts := by kernel_rfl
theorem qnm_ (p : NN.Pr) (h : p.ok) (room mb : Nat) : Tryz.prog.built 85 [(0, .agg (NN.prA p)), (1, Value.int .i64 (room : Int)), (3, .map (some mb))] = some (arA p room (.slice none 0 0) mb) := by
 rw [qzy_]
 have h0 := qbi_ h
 unfold arA arC
 rw [show NN.prC prZ ++ [Value.int .i64 0, Value.slice none 0 0, Value.map none] = [] ++ (NN.prC prZ ++ [Value.int .i64 0, Value.slice none 0 0, Value.map none]) from rfl,
  qbb_ (off := 0) (n := 83) [] (NN.prC prZ) _ (NN.prC p) rfl rfl (qbi_ prZ_ok) rfl h0,
  show [] ++ (NN.prC p ++ [Value.int .i64 0, Value.slice none 0 0, Value.map none]) = NN.prC p ++ ([Value.int .i64 0] ++ [Value.slice none 0 0, Value.map none]) by simp,
  qbb_ (off := 83) (n := 1) (NN.prC p) [Value.int .i64 0] _ [Value.int .i64 (room : Int)] rfl h0 rfl rfl rfl,
  show NN.prC p ++ ([Value.int .i64 (room : Int)] ++ [Value.slice none 0 0, Value.map none]) = (NN.prC p ++ [Value.int .i64 (room : Int), Value.slice none 0 0]) ++ ([Value.map none] ++ []) by simp,
  qbb_ (off := 85) (n := 1) (NN.prC p ++ [Value.int .i64 (room : Int), Value.slice none 0 0]) [Value.map none] [] [Value.map (some mb)] rfl (by simp [h0]) rfl rfl rfl, qkn_]
 simp
end Go.Proofs.YtkclahiiijfllaaGreatDoor.An
namespace Go.Proofs.YtkclahiiijfllaaGreatDoor.An
open Go.RowKit Mem Sc
open Ar (Ent Ru entZ)
def Sup (I : Nat → Prop) (P : World → Prop) (w : World) : Prop := ∀ w', Kp (fun i => ¬ I i) w w' → P w'
section
variable {w w' : World} {I J G : Nat → Prop} {P P' : World → Prop}
theorem Sup.now (h : Sup I P w) : P w := h w (Kp.refl _ w)
theorem Sup.on (h : Sup I P w) (k : Kp G w w') (hG : ∀ i, I i → ¬ G i) : Sup I P w' := fun w2 k2 => h w2 ((k.mono (fun i hi _ => fun h => hG i h hi)).trans k2 (fun _ hi _ => hi))
theorem Sup.wide (h : Sup I P w) (hI : ∀ i, I i → J i) : Sup J P w := fun w2 k2 => h w2 (k2.mono fun i hi _ => fun h => hi (hI i h))
theorem Sup.imp (h : Sup I P w) (hP : ∀ w', P w' → P' w') : Sup I P' w := fun w2 k2 => hP w2 (h w2 k2)
theorem Sup.and (h : Sup I P w) (h' : Sup I P' w) : Sup I (fun w => P w ∧ P' w) w := fun w2 k2 => ⟨h w2 k2, h' w2 k2⟩
end
theorem qrm_ {w w' : World} {F : Nat → Prop} {b o : Nat} {cs : List Value} (h : w.rangeAt b o cs) (k : Kp F w w') (hb : b < w.heap.size) (hn : ¬ F b) : w'.rangeAt b o cs := fun j u hu => (World.cell?_of_block (k.block b hb hn)).trans (h j u hu)
theorem quy_ {w : World} {I : Nat → Prop} {a : Option Addr} {gs : List Gt} (h : GatesAt w a gs) (hI : 0 < gs.length → ∀ ad, a = some ad → I ad.block) : Sup I (fun w => GatesAt w a gs) w := fun w' k h0 => by
 obtain ⟨ab, ao, ha, hlt, hc⟩ := h h0
 have := hI h0 _ ha
 exact ⟨ab, ao, ha, Nat.lt_of_lt_of_le hlt k.size, fun i hi => qrm_ (hc i hi) k hlt (fun hn => hn this)⟩
theorem qrn_ {w : World} {I : Nat → Prop} {a : Option Addr} {gs : List Ck} (h : ChecksAt w a gs) (hI : 0 < gs.length → ∀ ad, a = some ad → I ad.block) : Sup I (fun w => ChecksAt w a gs) w := fun w' k h0 => by
 obtain ⟨ab, ao, ha, hlt, hc⟩ := h h0
 have := hI h0 _ ha
 exact ⟨ab, ao, ha, Nat.lt_of_lt_of_le hlt k.size, fun i hi => ⟨(hc i hi).1, qrm_ (hc i hi).2 k hlt (fun hn => hn this)⟩⟩
theorem qro_ {w : World} {I : Nat → Prop} {s : Sp} {q : Ps} {lo : Nat} (h : SpIs w lo s q) (hI : ∀ i, lo ≤ i → i < w.heap.size → I i) : Sup I (fun w => SpIs w 0 s q) w := fun w' k => by
 obtain ⟨h1, h2, h3, h4, h5, h6⟩ := h
 refine ⟨h1, h2, h3, h4, h5, fun h0 => ?_⟩
 obtain ⟨b, off, e, g1, g2, hc⟩ := h6 h0
 exact ⟨b, off, e, Nat.zero_le _, Nat.lt_of_lt_of_le g2 k.size, fun j hj => (World.cell?_of_block (w := w) (a := ⟨b, off + j, none⟩) (k.block b g2 (fun hn => hn (hI b g1 g2)))).trans (hc j hj)⟩
theorem kp_row {w w' : World} {F : Nat → Prop} {base : Nat} {v : Value} {e size n : Nat} {xs : List Value} (h : w.ownsRow base e size v n xs) (k : Kp F w w') (hF : ∀ i, v.ownBlock = some i → ¬ F i) : w'.ownsRow base e size v n xs := by
 refine ⟨h.1, ?_⟩
 rcases h.2 with h | ⟨g, c, cur, rfl, h1, h2, h3⟩
 ·exact .inl h
 ·have hg : g < w.heap.size := (Array.getElem?_eq_some_iff.1 h2).1
  exact .inr ⟨g, c, cur, rfl, h1, (k.block g hg (hF g rfl)).trans h2, h3⟩
theorem row_lt {w : World} {base : Nat} {v : Value} {e size n : Nat} {xs : List Value} (h : w.ownsRow base e size v n xs) {i : Nat} (hi : v.ownBlock = some i) : i < w.heap.size ∧ base ≤ i := by
 rcases h.2 with ⟨rfl, _⟩ | ⟨g, c, cur, rfl, h1, h2, h3⟩
 ·cases hi
 ·cases hi
  exact ⟨(Array.getElem?_eq_some_iff.1 h2).1, h1⟩
theorem qwr_ {w : World} {base : Nat} {v : Value} {e size n : Nat} {xs : List Value} (h : w.ownsRow base e size v n xs) {i : Nat} (hi : v.ownBlock = some i) : ∃ cs, w.heap[i]? = some (.cells cs e (0, 0)) := by
 rcases h.2 with ⟨rfl, _⟩ | ⟨g, c, cur, rfl, h1, h2, h3⟩
 ·cases hi
 ·cases hi
  exact ⟨_, h2⟩
structure Bk where
 e : En
 s : Sp
 q : Ps
def rowC (L : List Bk) : List Value := L.flatMap fun x => bkC x.e x.s
theorem qzz_ (L : List Bk) (x : Bk) : rowC (L ++ [x]) = rowC L ++ bkC x.e x.s := by simp [rowC]
structure Ara (w : World) (I : Nat → Prop) (b : Nat) (p : NN.Pr) (t : Tl) (gs : List Gt) (cs : List Ck) (room : Nat) (v : Value) (mb : Nat) (L : List Bk) : Prop where
 has : Has w b (arA p room v mb) 85
 pok : p.ok
 one : p.one
 tt : p.tl = t.C
 tok : t.ok
 gn : t.gn = gs.length
 cn : t.cn = cs.length
 row : w.ownsRow 0 90 144 v L.length (rowC L)
 map : MapIs w mb (L.map (·.e.id))
 gates : Sup I (fun w => GatesAt w t.ga gs) w
 checks : Sup I (fun w => ChecksAt w t.ca cs) w
 spots : ∀ x ∈ L, Sup I (fun w => SpIs w 0 x.s x.q) w
 nb : ¬ I b
 nm : ¬ I mb
 nv : ∀ k, v.ownBlock = some k → ¬ I k
 lt : ∀ i, I i → i < w.heap.size
 good : ∀ x ∈ L, x.e.ok ∧ x.s.ok
def Mine (I : Nat → Prop) (b : Nat) (v : Value) (mb : Nat) : Nat → Prop := fun i => I i ∨ i = b ∨ i = mb ∨ v.ownBlock = some i
section
variable {w w' : World} {I G : Nat → Prop} {b : Nat} {p : NN.Pr} {t : Tl} {gs : List Gt} {cs : List Ck} {room : Nat} {v : Value} {mb : Nat} {L : List Bk}
theorem Ara.on (h : Ara w I b p t gs cs room v mb L) (k : Kp G w w') (hG : ∀ i, Mine I b v mb i → ¬ G i) : Ara w' I b p t gs cs room v mb L where
 has := k.has h.has (hG b (.inr (.inl rfl)))
 pok := h.pok
 one := h.one
 tt := h.tt
 tok := h.tok
 gn := h.gn
 cn := h.cn
 row := kp_row h.row k fun i hi => hG i (.inr (.inr (.inr hi)))
 map := h.map.on (k.block mb h.map.lt (hG mb (.inr (.inr (.inl rfl)))))
 gates := h.gates.on k fun i hi => hG i (.inl hi)
 checks := h.checks.on k fun i hi => hG i (.inl hi)
 spots := fun x hx => (h.spots x hx).on k fun i hi => hG i (.inl hi)
 nb := h.nb
 nm := h.nm
 nv := h.nv
 lt := fun i hi => Nat.lt_of_lt_of_le (h.lt i hi) k.size
 good := h.good
theorem Ara.mine_lt (h : Ara w I b p t gs cs room v mb L) {i : Nat} (hi : Mine I b v mb i) : i < w.heap.size := by
 rcases hi with hi | rfl | rfl | hi
 ·exact h.lt i hi
 ·exact h.has.lt
 ·exact h.map.lt
 ·exact (row_lt h.row hi).1
theorem Ara.below (h : Ara w I b p t gs cs room v mb L) (hb : Below w.heap.size w w') : Ara w' I b p t gs cs room v mb L := h.on (G := fun _ => False) (Kp.of hb) fun _ _ hf => hf
theorem Ara.b_ne_mb (h : Ara w I b p t gs cs room v mb L) : b ≠ mb := h.map.not_cells h.has
theorem Ara.b_ne_v (h : Ara w I b p t gs cs room v mb L) {i : Nat} (hi : v.ownBlock = some i) : i ≠ b := by
 rintro rfl
 obtain ⟨c, hc⟩ := qwr_ h.row hi
 have := h.has.out
 rw [hc] at this
 injection this with this
 injection this with _ this
 exact absurd this (by decide)
theorem Ara.mb_ne_v (h : Ara w I b p t gs cs room v mb L) {i : Nat} (hi : v.ownBlock = some i) : i ≠ mb := by
 obtain ⟨c, hc⟩ := qwr_ h.row hi
 exact h.map.not_cells hc
end
def wkOf (r : Ru) (hs : List Hd) : Nat := hs.foldl (fun n h => NN.Nm.cap (n + NN.ofBits h.bits)) (NN.ofBits r.g.bits)
theorem qrp_ (r : Ru) (hs : List Hd) (h : Hd) : wkOf r (hs ++ [h]) = NN.Nm.cap (wkOf r hs + NN.ofBits h.bits) := by simp [wkOf]
theorem wkOf_lt (r : Ru) (hs : List Hd) : wkOf r hs < NN.Nm.big := by
 rcases List.eq_nil_or_concat hs with rfl | ⟨l, x, rfl⟩
 ·exact NN.qmh_ _
 ·rw [List.concat_eq_append, qrp_]; exact NN.Nm.cap_lt _
def enOf (r : Ru) (e : Ent) : En := ⟨e.h r.g, (e.h r.g).id, e.up, (e.hs.length : Nat), wkOf r e.hs⟩
def Lk (r : Ru) (M : List Ent) (L : List Bk) : Prop := L.map (fun x => (x.e, x.q)) = M.map (fun e => (enOf r e, Ar.spot r e))
theorem Lk.length {r : Ru} {M : List Ent} {L : List Bk} (h : Lk r M L) : L.length = M.length := by
 have := congrArg List.length h
 simpa using this
theorem Lk.at {r : Ru} {M : List Ent} {L : List Bk} (h : Lk r M L) {i : Nat} {e : Ent} (he : M[i]? = some e) : ∃ s, L[i]? = some ⟨enOf r e, s, Ar.spot r e⟩ := by
 have h1 : (L.map (fun x => (x.e, x.q)))[i]? = (M.map (fun e => (enOf r e, Ar.spot r e)))[i]? := by rw [h]
 rw [List.getElem?_map, List.getElem?_map, he] at h1
 cases hL : L[i]? with
 | none => rw [hL] at h1; cases h1
 | some x =>
  rw [hL] at h1
  obtain ⟨xe, xs, xq⟩ := x
  simp only [Option.map_some, Option.some.injEq, Prod.mk.injEq] at h1
  obtain ⟨rfl, rfl⟩ := h1
  exact ⟨xs, rfl⟩
theorem Lk.ids {r : Ru} {M : List Ent} {L : List Bk} (h : Lk r M L) : L.map (·.e.id) = M.map fun e => (e.h r.g).id := by
 have := congrArg (List.map fun x : En × Ps => x.1.id) h
 rw [List.map_map, List.map_map] at this
 exact this
theorem Lk.find {r : Ru} {M : List Ent} {L : List Bk} (h : Lk r M L) (id : List UInt8) : (L.map (·.e.id)).findIdx? (· == id) = Ar.fnd r.g M id := by
 rw [h.ids, List.findIdx?_map]
 rfl
theorem Lk.put {r : Ru} {M : List Ent} {L : List Bk} (h : Lk r M L) (e : Ent) (s : Sp) : Lk r (M ++ [e]) (L ++ [⟨enOf r e, s, Ar.spot r e⟩]) := by
 unfold Lk at *
 rw [List.map_append, List.map_append, h]
 rfl
def Alike (p : NN.Pr) (t : Tl) (r : Ru) : Prop := p.lim = r.p.lim ∧ p.ivl = r.p.ivl ∧ p.spc = r.p.spc ∧ p.fut = r.p.fut ∧ p.easy = r.p.easy ∧ t.g = r.g
def ArS (w : World) (F : Nat → Prop) (b : Nat) (r : Ru) (M : List Ent) : Prop :=
 (∀ i, F i → i < w.heap.size) ∧ ∃ I p t v mb L, Ara w I b p t r.gs r.cs r.room v mb L ∧ Alike p t r ∧ Lk r M L ∧ ∀ i, Mine I b v mb i → F i
section
variable {w w' : World} {F G : Nat → Prop} {b : Nat} {r : Ru} {M : List Ent}
theorem ArS.on (h : ArS w F b r M) (k : Kp G w w') (hG : ∀ i, F i → ¬ G i) : ArS w' F b r M := by
 obtain ⟨hl, I, p, t, v, mb, L, h1, h2, h3, h4⟩ := h
 exact ⟨fun i hi => Nat.lt_of_lt_of_le (hl i hi) k.size, I, p, t, v, mb, L, h1.on k fun i hi => hG i (h4 i hi), h2, h3, h4⟩
theorem ArS.below (h : ArS w F b r M) (hb : Below w.heap.size w w') : ArS w' F b r M := h.on (G := fun _ => False) (Kp.of hb) fun _ _ hf => hf
theorem ArS.wide (h : ArS w F b r M) (hF : ∀ i, F i → G i) (hG : ∀ i, G i → i < w.heap.size) : ArS w G b r M := by
 obtain ⟨_, I, p, t, v, mb, L, h1, h2, h3, h4⟩ := h
 exact ⟨hG, I, p, t, v, mb, L, h1, h2, h3, fun i hi => hF i (h4 i hi)⟩
end
theorem nxt_lt {F : Nat → Prop} {w w' : World} (h : ∀ i, F i → i < w.heap.size) (hs : w.heap.size ≤ w'.heap.size) : ∀ i, Nxt F w w' i → i < w'.heap.size := fun i hi => by
 rcases hi with hi | hi
 ·exact Nat.lt_of_lt_of_le (h i hi) hs
 ·exact hi.2
theorem quz_ {p : NN.Pr} {t : Tl} {r : Ru} (h : Alike p t r) (q : Ps) (hd : Hd) (now : Int) : chk p r.gs r.cs q hd now = chk r.p r.gs r.cs q hd now := by
 obtain ⟨pl, pi, ps, pf, pe, pt⟩ := p
 obtain ⟨⟨rl, ri, rs, rf, re, rt⟩, _, _, _, _⟩ := r
 obtain ⟨h1, h2, h3, h4, h5, h6⟩ := h
 simp only at h1 h2 h3 h4 h5
 subst h1 h2 h3 h4 h5
 rfl
theorem qaaa_ {p : NN.Pr} {t : Tl} {r : Ru} (h : Alike p t r) (q : Ps) (hd : Hd) : bh p q hd = bh r.p q hd := by
 obtain ⟨pl, pi, ps, pf, pe, pt⟩ := p
 obtain ⟨⟨rl, ri, rs, rf, re, rt⟩, _, _, _, _⟩ := r
 obtain ⟨h1, h2, h3, h4, h5, h6⟩ := h
 simp only at h1 h2 h3 h4 h5
 subst h1 h2 h3 h4 h5
 rfl
end Go.Proofs.YtkclahiiijfllaaGreatDoor.An
namespace Go.Proofs.YtkclahiiijfllaaGreatDoor.An
open Go.RowKit Mem Sc
open Ar (Ent Ru entZ)
section
variable {w w' : World} {b : Nat} {p : NN.Pr} {room mb : Nat} {v : Value}
theorem arA_at (j : Nat) : (arA p room v mb)[j]? = (arC p room v mb)[j]? := by unfold arA; rw [List.getElem?_toArray]
theorem qrq_ (hp : p.ok) (j : Nat) : (arC p room v mb)[83 + j]? = ([.int .i64 (room : Int), v, .map (some mb)] : List Value)[j]? := by
 unfold arC
 rw [List.getElem?_append_right (by rw [qbi_ hp]; omega), qbi_ hp, show 83 + j - 83 = j by omega]
theorem ar83 (h : Has w b (arA p room v mb) 85) (hp : p.ok) : w.cell? ⟨b, 83, none⟩ = some (.int .i64 (room : Int)) := (Has.cell h 83).trans ((arA_at 83).trans (qrq_ hp 0))
theorem ar84 (h : Has w b (arA p room v mb) 85) (hp : p.ok) : w.cell? ⟨b, 84, none⟩ = some v := (Has.cell h 84).trans ((arA_at 84).trans (qrq_ hp 1))
theorem ar85 (h : Has w b (arA p room v mb) 85) (hp : p.ok) : w.cell? ⟨b, 85, none⟩ = some (.map (some mb)) := (Has.cell h 85).trans ((arA_at 85).trans (qrq_ hp 2))
theorem ar_pr (h : Has w b (arA p room v mb) 85) : w.rangeAt b 0 (NN.prC p) := by
 have := qcg_ (A := []) (cs := NN.prC p) (C := [.int .i64 (room : Int), v, .map (some mb)]) (o := 0) (w := w) (b := b) (t := 85) h rfl
 exact this
theorem ar_set (h : Has w b (arA p room v mb) 85) (hp : p.ok) (v' : Value) : Has (w.setCell ⟨b, 84, none⟩ v') b (arA p room v' mb) 85 := by
 have := Has.set (i := 84) h v'
 have e : (arA p room v mb).setIfInBounds 84 v' = arA p room v' mb := by
  unfold arA arC
  rw [List.setIfInBounds_toArray]
  congr 1
  rw [List.set_append_right _ _ (by rw [qbi_ hp]; omega), qbi_ hp]
  rfl
 rwa [e] at this
end
section
variable {w : World} {k : Nat} {e : En} {ops : Array Oper} {rest : List Oper} {o : Oper} {a : Act} {Q : Exit → Act → World → Prop}
theorem EnAt.on {w' : World} (h : EnAt w k e) (hb : Below w.heap.size w w') : EnAt w' k e := qi_ hb h (Has.lt h)
theorem qhn_ (w : World) : EnAt (w.alloc (.cells Tryz.zeroCells44 44)) w.heap.size enZ := Has.new (enA enZ) _
theorem qws_ (hgd : o.guard = none) (x : Operand) (ho : o.op = .load 44 x) (g : Nat) (hx : a.eval x = .pointer (some ⟨g, 0, none⟩)) (hg : EnAt w g e) (hs : (enA e).size = 106)
  (hk : wpList Tryz.prog ops Q rest (a.put o.dst (.agg (enA e))) w) : wpList Tryz.prog ops Q (o :: rest) a w :=
 wpList_load_row hgd 44 x ho g hx 44 (enA e) (0, 0) _ (Has.out hg) Tryz.underlying44 rfl (eninfo.trans (by rw [hs])) hk
theorem qnn_ (hgd : o.guard = none) (x : Operand) (ho : o.op = .load 44 x) (g off : Nat) (hx : a.eval x = .pointer (some ⟨g, off, none⟩)) (e : En) (hg : w.rangeAt g off (enC e)) (hs : (enC e).length = 106)
  (hk : wpList Tryz.prog ops Q rest (a.put o.dst (.agg (enA e))) w) : wpList Tryz.prog ops Q (o :: rest) a w :=
 wpList_load_mid hgd 44 x ho g off hx (enC e) _ hg Tryz.underlying44 rfl (eninfo.trans (by rw [hs])) hk
theorem qez_ (hgd : o.guard = none) (x : Operand) (ho : o.op = .load 69 x) (g off : Nat) (hx : a.eval x = .pointer (some ⟨g, off, none⟩)) (s : Sp) (hg : w.rangeAt g off (spC s)) (hs : (spC s).length = 38)
  (hk : wpList Tryz.prog ops Q rest (a.put o.dst (.agg (spA s))) w) : wpList Tryz.prog ops Q (o :: rest) a w :=
 wpList_load_mid hgd 69 x ho g off hx (spC s) _ hg Tryz.underlying69 rfl (spinfo.trans (by rw [hs])) hk
theorem qfa_ (hgd : o.guard = none) (x y : Operand) (ho : o.op = .store 44 x y) (g : Nat) (cz : Array Value) (e' : En) (hx : a.eval x = .pointer (some ⟨g, 0, none⟩)) (hy : a.eval y = .agg cz) (he : cz = enA e') (hs' : (enA e').size = 106) (hg : EnAt w g e) (hs : (enA e).size = 106)
  (hk : wpList Tryz.prog ops Q rest (a.put o.dst undef) (w.setRow g (enA e'))) : wpList Tryz.prog ops Q (o :: rest) a w := by
 subst he
 exact wpList_store_row hgd 44 x y ho g (enA e') hx hy 44 (enA e) (Has.out hg) (eninfo.trans (by rw [hs'])) (by rw [hs, hs']) (qwq_ e') hk
theorem en_none (hgd : o.guard = none) (x : Operand) (ho : o.op = .build 44 #[(2, x)]) (hx : a.eval x = .int .i64 (-1))
  (hk : wpList Tryz.prog ops Q rest (a.put o.dst (.agg (enA enN))) w) : wpList Tryz.prog ops Q (o :: rest) a w :=
 wpList_plain hgd fun _ hK => by
  unfold Oper.wp execOp
  simp only [ho, Sem.run_bind]
  rw [show (#[(2, x)] : Array (Nat × Operand)).map (fun (i, x) => (i, a.eval x)) = #[(2, .int .i64 (-1))] by simp [hx], run_build w 44 _ _ qrl_]
  exact hK _ _ hk
theorem qaab_ (hgd : o.guard = none) (x0 x1 x2 x3 x4 : Operand) (ho : o.op = .build 44 #[(0, x0), (1, x1), (2, x2), (3, x3), (4, x4)]) (e : En) (he : e.ok) (h0 : a.eval x0 = .agg (hdA e.h)) (h1 : a.eval x1 = .agg (bytesV e.id)) (h2 : a.eval x2 = .int .i64 e.up) (h3 : a.eval x3 = .int .i64 e.ht) (h4 : a.eval x4 = .agg (NN.numC e.wk))
  (hk : wpList Tryz.prog ops Q rest (a.put o.dst (.agg (enA e))) w) : wpList Tryz.prog ops Q (o :: rest) a w :=
 wpList_plain hgd fun _ hK => by
  unfold Oper.wp execOp
  simp only [ho, Sem.run_bind]
  rw [show (#[(0, x0), (1, x1), (2, x2), (3, x3), (4, x4)] : Array (Nat × Operand)).map (fun (i, x) => (i, a.eval x)) = #[(0, .agg (hdA e.h)), (1, .agg (bytesV e.id)), (2, .int .i64 e.up), (3, .int .i64 e.ht), (4, .agg (NN.numC e.wk))] by simp [h0, h1, h2, h3, h4], run_build w 44 _ _ (qhm_ e he)]
  exact hK _ _ hk
theorem qrr_ {fn : Func} {p : Tmp} (hf : fn.results = #[.cell p 44]) (tmps : Array Value) (g : Nat) (hp : tmps.getD p undef = .pointer (some ⟨g, 0, none⟩)) (hg : EnAt w g e) (hs : (enA e).size = 106) :
  (results fn tmps).run Tryz.prog w = .ok (.agg (enA e)) w :=
 results_cell_row hf tmps w g 44 (enA e) (0, 0) _ hp (Has.out hg) Tryz.underlying44 rfl (eninfo.trans (by rw [hs]))
theorem qno_ {fn : Func} {p q : Tmp} (hf : fn.results = #[.cell p 44, .tmp q]) (tmps : Array Value) (g : Nat) (c : Value) (hp : tmps.getD p undef = .pointer (some ⟨g, 0, none⟩)) (hc : tmps.getD q undef = c) (hg : EnAt w g e) (hs : (enA e).size = 106) :
  (results fn tmps).run Tryz.prog w = .ok (.tuple #[.agg (enA e), c]) w := by
 rw [results_cell_tmp hf, hp, hc]
 have hl : (loadVar 44 ⟨g, 0, none⟩).run Tryz.prog w = .ok (.agg (enA e)) w := run_loadVar_row w g 44 44 (enA e) (0, 0) _ (Has.out hg) Tryz.underlying44 rfl (eninfo.trans (by rw [hs]))
 simp [asAddr, hl, Result.andThen]
end
theorem qaac_ (L : List Bk) (h : ∀ x ∈ L, x.e.ok ∧ x.s.ok) (i j : Nat) (x : Bk) (hi : L[i]? = some x) (hj : j < 144) : (rowC L)[i * 144 + j]? = (bkC x.e x.s)[j]? := by
 induction L generalizing i with
 | nil => simp at hi
 | cons y L ih =>
  have hy := h y (by simp)
  have hl := qdt_ hy.1 hy.2
  have e : rowC (y :: L) = bkC y.e y.s ++ rowC L := rfl
  rw [e]
  cases i with
  | zero =>
   obtain rfl : y = x := by simpa using hi
   rw [List.getElem?_append_left (by omega)]; simp
  | succ i =>
   rw [List.getElem?_append_right (by omega), hl, show (i + 1) * 144 + j - 144 = i * 144 + j by omega]
   exact ih (fun z hz => h z (by simp [hz])) i (by simpa using hi)
section
variable {w : World} {I : Nat → Prop} {b : Nat} {p : NN.Pr} {t : Tl} {gs : List Gt} {cs : List Ck} {room : Nat} {v : Value} {mb : Nat} {L : List Bk}
theorem Ara.range (h : Ara w I b p t gs cs room v mb L) {i : Nat} {x : Bk} (hi : L[i]? = some x) : ∃ g c, v = .slice (some ⟨g, 0, none⟩) L.length c ∧ g < w.heap.size ∧ w.rangeAt g (i * 144) (bkC x.e x.s) := by
 have hlt := (List.getElem?_eq_some_iff.1 hi).1
 have hx := h.good x (List.mem_of_getElem? hi)
 rcases h.row.2 with ⟨_, h0⟩ | ⟨g, c, cur, rfl, h1, h2, h3, h4, h5, h6⟩
 ·omega
 ·refine ⟨g, c, rfl, (Array.getElem?_eq_some_iff.1 h2).1, fun j u hu => ?_⟩
  have hj : j < 144 := by
   have := (List.getElem?_eq_some_iff.1 hu).1
   rwa [qdt_ hx.1 hx.2] at this
  rw [← qaac_ L h.good i j x hi hj, ← h6] at hu
  have hH : Has w g cur 90 := h2
  rw [hH.cell, ← hu, List.getElem?_take_of_lt (by omega), Array.getElem?_toList]
theorem Ara.slice (h : Ara w I b p t gs cs room v mb L) : ∃ a c, v = .slice a L.length c := by
 rcases h.row.2 with ⟨rfl, h0⟩ | ⟨g, c, cur, rfl, _⟩
 ·exact ⟨none, 0, by rw [h0]⟩
 ·exact ⟨_, c, rfl⟩
theorem qrs_ {w : World} {g o : Nat} {e : En} {s : Sp} (hr : w.rangeAt g o (bkC e s)) : w.rangeAt g o (enC e) := by
 have := qhy_ (A := []) (cs := enC e) (C := spC s) (k := 0) (w := w) (b := g) (o := o) hr rfl
 exact this
theorem qku_ {w : World} {g o : Nat} {e : En} {s : Sp} (he : e.ok) (hr : w.rangeAt g o (bkC e s)) : w.rangeAt g (o + 106) (spC s) :=
 qhy_ (A := enC e) (cs := spC s) (C := []) (k := 106) (w := w) (b := g) (o := o) (by rw [List.append_nil]; exact hr) (qbu_ he)
theorem qaad_ {w : World} {g o : Nat} {e : En} (he : e.ok) (hr : w.rangeAt g o (enC e)) : w.rangeAt g (o + 102) (NN.numC e.wk).toList :=
 qhy_ (A := hdC e.h ++ (Lib.byteCells e.id ++ [.int .i64 e.up, .int .i64 e.ht])) (cs := (NN.numC e.wk).toList) (C := []) (k := 102) (w := w) (b := g) (o := o) (by rw [List.append_nil]; unfold enC at hr; simpa using hr) (by simp [qj_ he.1, qg_ he.2])
end
theorem qrt_ {C : World → Prop} {K : Act → Prop} {o : Oper} {a : Act} (x y : Operand) (ho : o.op = .lookup 82 x y true) (m : Value) (hx : a.eval x = m) (k : Value) (hy : a.eval y = k) (r : Value) (hC : ∀ w', C w' → (Instr.lookup 82 m k true).run Tryz.prog w' = .ok r w')
  (hk : K (a.put o.dst r)) : o.quiet Tryz.prog a C K :=
 ⟨_, fun w' hw' => by
  unfold Oper.quietAt
  have this : (execOp a.eval o).run Tryz.prog w' = .ok (.value r) w' := by
   unfold execOp
   simp only [ho, hx, hy, Sem.run_bind, hC w' hw', Result.andThen_ok]
   rfl
  rw [this]
  exact ⟨rfl, rfl⟩, hk⟩
theorem qaae_ {w : World} {b : Nat} {l : List UInt8} {t : TypeId} (h : Has w b (bytesV l) t) : w.rangeAt b 0 (Lib.byteCells l) := fun j u hu => by
 rw [Nat.zero_add, h.cell j, ← Array.getElem?_toList, qac_]
 exact hu
theorem qas_ {w : World} : ∀ w', (∃ r : Regrown, w' = Sort.grow (redrawn w r.d) r.os) → Below w.heap.size w w' := fun w' ⟨r, e⟩ => by rw [e]; exact below_regrown w r.d r.os
end Go.Proofs.YtkclahiiijfllaaGreatDoor.An
namespace Go.Proofs.YtkclahiiijfllaaGreatDoor.An
open Go.RowKit Mem Sc
open Ar (Ent Ru entZ)
set_option maxRecDepth 100000
theorem has_w (b n : Nat) (p : Option Addr) (c : Nat) (k : Int) (g1 g2 : Bool) (h1 : decide ((0 : Int) ≤ k) = g1) (h2 : decide (k < (n : Int)) = g2) (w : World) (hv : w.cell? ⟨b, 84, none⟩ = some (.slice p n c)) :
  Ca_ 39 #[.pointer (some ⟨b, 0, none⟩), .int .i64 k] w (.bool (g1 && g2)) := by
 have hB := Below.refl w.heap.size w
 cases g1
 ·go_enter Tryz.func39, Tryz.ntmps39
  go_wp2_with fail
  go_ret
  exact ⟨rfl, hB⟩
 ·go_enter Tryz.func39, Tryz.ntmps39
  go_wp2_with fail
  go_ret
  exact ⟨by cases g2 <;> rfl, hB⟩
theorem len_w (b n : Nat) (p : Option Addr) (c : Nat) (w : World) (hv : w.cell? ⟨b, 84, none⟩ = some (.slice p n c)) :
  Ca_ 13 #[.pointer (some ⟨b, 0, none⟩)] w (.int .i64 (n : Int)) := by
 have hB := Below.refl w.heap.size w
 go_enter Tryz.func13, Tryz.ntmps13
 go_wp2_with fail
 go_ret
 exact ⟨rfl, hB⟩
theorem room_w (b : Nat) (m : Int) (w : World) (hv : w.cell? ⟨b, 83, none⟩ = some (.int .i64 m)) :
  Ca_ 14 #[.pointer (some ⟨b, 0, none⟩)] w (.int .i64 m) := by
 have hB := Below.refl w.heap.size w
 go_enter Tryz.func14, Tryz.ntmps14
 go_wp2_with fail
 go_ret
 exact ⟨rfl, hB⟩
theorem find_w (b mb : Nat) (id : List UInt8) (hid : id.length = 32) (w : World) (c : Int) (g : Bool) (z : Int) (hz : z = if g then c else -1) (hv : w.cell? ⟨b, 85, none⟩ = some (.map (some mb)))
  (hL : ∀ w', Below w.heap.size w w' → (Instr.lookup 82 (.map (some mb)) (.agg (bytesV id)) true).run Tryz.prog w' = .ok (.tuple #[.int .i64 c, .bool g]) w') :
  Ca_ 15 #[.pointer (some ⟨b, 0, none⟩), .agg (bytesV id)] w (.int .i64 z) := by
 go_enter Tryz.func15, Tryz.ntmps15
 go_upto_region 1 with fail
 generalize hw0 : World.alloc _ _ = v0
 have hB : Below w.heap.size w v0 := bl_ hw0
 have hI : Has v0 w.heap.size (bytesV id) 28 := by rw [← hw0]; exact Has.new _ _
 clear hw0
 have hv0 := (hB.cell (p := ⟨b, 85, none⟩) (block_lt_of_cell hv)).trans hv
 have q1 : ∀ d os, (Sort.grow (redrawn v0 d) os).cell? ⟨b, 85, none⟩ = some (.map (some mb)) := cell_regrown hv0
 obtain ⟨bI, hbI⟩ : ∃ x, x = w.heap.size := ⟨_, rfl⟩
 rw [← hbI] at hI ⊢
 clear hbI
 have qI := qs_ (qaae_ hI) (by rw [Lib.byteCells_length]; omega)
 have s1 := qg_ hid
 have hL0 : ∀ w', (∃ r : Regrown, w' = Sort.grow (redrawn v0 r.d) r.os) → (Instr.lookup 82 (.map (some mb)) (.agg (bytesV id)) true).run Tryz.prog w' = .ok (.tuple #[.int .i64 c, .bool g]) w' := fun w' h => hL w' (hB.trans ((qas_ w' h).mono hB.size))
 go_upto_region 3 with fail
 refine wp_region_quiet_below (by kernel_rfl) (by kernel_rfl) ?_
 repeat (first
  | (go_big_quiet_want; (with_reducible refine qao_ _ rfl bI 0 rfl id s1 qI ?_); (simp only [Act.put, List.setIfInBounds_toArray, List.set_cons_zero, List.set_cons_succ]); go_big_quiet_on)
  | (go_big_quiet_want; (with_reducible refine qrt_ _ _ rfl (.map (some mb)) rfl (.agg (bytesV id)) rfl _ hL0 ?_); (simp only [Act.put, List.setIfInBounds_toArray, List.set_cons_zero, List.set_cons_succ]); go_big_quiet_on)
  | go_big_quiet_step (fail))
 refine wpQuiet_nil ?_
 intro v1 hw'
 have hB1 := hB.trans ((qas_ v1 hw').mono hB.size)
 cases g
 ·subst hz
  go_wp2_with fail
  go_ret
  exact ⟨rfl, hB1⟩
 ·subst hz
  go_wp2_with fail
  go_ret
  exact ⟨rfl, hB1⟩
theorem at_in (b g n c k : Nat) (e : En) (he : e.ok) (hk : k < n) (w : World) (hv : w.cell? ⟨b, 84, none⟩ = some (.slice (some ⟨g, 0, none⟩) n c)) (hr : w.rangeAt g (k * 144) (enC e))
  (KH : Hid (∀ w', Below w.heap.size w w' → Calls Tryz.prog 39 #[.pointer (some ⟨b, 0, none⟩), .int .i64 (k : Int)] w' fun e w'' => e = .returned (.bool true) ∧ Below w'.heap.size w' w'')) :
  Calls Tryz.prog 12 #[.pointer (some ⟨b, 0, none⟩), .int .i64 (k : Int)] w fun r w' => r = .returned (.tuple #[.agg (enA e), .bool true]) ∧ Below w.heap.size w w' := by
 have z0 := qbx_ enZ_ok
 have z1 := qbx_ he
 have z2 := qbu_ he
 go_enter Tryz.func12, Tryz.ntmps12
 go_upto_region 1 with fail
 generalize hw0 : World.alloc _ _ = v0
 have hB : Below w.heap.size w v0 := bl_ hw0
 have hR : EnAt v0 w.heap.size enZ := by rw [← hw0]; exact qhn_ w
 clear hw0
 obtain ⟨bR, hbR⟩ : ∃ x, x = w.heap.size := ⟨_, rfl⟩
 rw [← hbR] at hR ⊢
 have HBR : Hid (w.heap.size ≤ bR) := Lib.hid (by omega)
 clear hbR
 go_wp2_with fail
 refine (KH.out _ hB).mono ?_
 rintro r v1 ⟨rfl, hb⟩
 replace hR := hR.on hb
 replace hB := hB.trans (hb.mono hB.size)
 clear hb
 have hv1 := (hB.cell (p := ⟨b, 84, none⟩) (block_lt_of_cell hv)).trans hv
 have hr1 : v1.rangeAt g (k * 144) (enC e) := qax_ hr hB (by omega)
 clear hv hr
 go_wp2_with (first
  | (with_reducible refine qnn_ rfl _ rfl g (k * 144) rfl e hr1 z2 ?_)
  | (with_reducible refine qfa_ rfl _ _ rfl _ _ e rfl rfl rfl z1 hR z0 ?_))
 refine bodyPost_ret (qno_ Tryz.results12 _ _ _ rfl rfl (Has.row hR _) z1) rfl ⟨rfl, below_setRow hB HBR.out _⟩
def plc : Option Nat → Int
 | some i => (i : Int)
 | none => -1
section
variable {w : World} {F : Nat → Prop} {b : Nat} {r : Ru} {M : List Ent}
theorem len_at (h : ArS w F b r M) : Ca_ 13 #[.pointer (some ⟨b, 0, none⟩)] w (.int .i64 (M.length : Nat)) := by
 obtain ⟨_, I, p, t, v, mb, L, h1, h2, h3, h4⟩ := h
 obtain ⟨a, c, rfl⟩ := h1.slice
 have := len_w b L.length a c w (ar84 h1.has h1.pok)
 rwa [h3.length] at this
theorem room_at (h : ArS w F b r M) : Ca_ 14 #[.pointer (some ⟨b, 0, none⟩)] w (.int .i64 (r.room : Nat)) := by
 obtain ⟨_, I, p, t, v, mb, L, h1, h2, h3, h4⟩ := h
 exact room_w b r.room w (ar83 h1.has h1.pok)
theorem qji_ (h : ArS w F b r M) (id : List UInt8) (hid : id.length = 32) : Ca_ 15 #[.pointer (some ⟨b, 0, none⟩), .agg (bytesV id)] w (.int .i64 (plc (Ar.fnd r.g M id))) := by
 obtain ⟨_, I, p, t, v, mb, L, h1, h2, h3, h4⟩ := h
 have hf := h3.find id
 obtain ⟨c, hc, hi⟩ := h1.map.look hid
 rw [hf] at hc hi
 refine find_w b mb id hid w c (Ar.fnd r.g M id).isSome _ ?_ (ar85 h1.has h1.pok) fun w' hb => ?_
 ·cases hq : Ar.fnd r.g M id with
  | none => rfl
  | some i => exact (hi i hq).symm
 ·exact hc w' (hb.block mb h1.map.lt)
theorem qmj_ (h : ArS w F b r M) {i : Nat} {e : Ent} (he : M[i]? = some e) : (enOf r e).ok := by
 obtain ⟨_, I, p, t, v, mb, L, h1, h2, h3, h4⟩ := h
 obtain ⟨s, hs⟩ := h3.at he
 exact (h1.good _ (List.mem_of_getElem? hs)).1
theorem has_at (h : ArS w F b r M) (k : Int) (g : Bool) (hg : (decide (0 ≤ k) && decide (k < (M.length : Nat))) = g) : Ca_ 39 #[.pointer (some ⟨b, 0, none⟩), .int .i64 k] w (.bool g) := by
 obtain ⟨_, I, p, t, v, mb, L, h1, h2, h3, h4⟩ := h
 obtain ⟨a, c, rfl⟩ := h1.slice
 have := has_w b L.length a c k _ _ rfl rfl w (ar84 h1.has h1.pok)
 rwa [h3.length, hg] at this
theorem at_at (h : ArS w F b r M) {i : Nat} {e : Ent} (he : M[i]? = some e) (k : Int) (hk : k = (i : Nat)) : Calls Tryz.prog 12 #[.pointer (some ⟨b, 0, none⟩), .int .i64 k] w fun x w' => x = .returned (.tuple #[.agg (enA (enOf r e)), .bool true]) ∧ Below w.heap.size w w' := by
 subst hk
 have hi := (List.getElem?_eq_some_iff.1 he).1
 have KH : Hid (∀ w', Below w.heap.size w w' → Calls Tryz.prog 39 #[.pointer (some ⟨b, 0, none⟩), .int .i64 (i : Nat)] w' fun e w'' => e = .returned (.bool true) ∧ Below w'.heap.size w' w'') := Lib.hid fun w' hb => has_at (h.below hb) _ true (by rw [Bool.and_eq_true]; exact ⟨decide_eq_true (by omega), decide_eq_true (by omega)⟩)
 have ho := qmj_ h he
 obtain ⟨_, I, p, t, v, mb, L, h1, h2, h3, h4⟩ := h
 obtain ⟨s, hs⟩ := h3.at he
 obtain ⟨g, c, rfl, hg, hr⟩ := h1.range hs
 exact at_in b g L.length c i (enOf r e) ho (by rw [h3.length]; exact hi) w (ar84 h1.has h1.pok) (qrs_ hr) KH
end
end Go.Proofs.YtkclahiiijfllaaGreatDoor.An
namespace Go.Proofs.YtkclahiiijfllaaGreatDoor.An
open Go.RowKit Mem Sc NN.Rg2
open Ar (Ent Ru entZ)
def Ph (k : Nat) (Pre Post : World → Prop) (l : Array Bool) (w : World) : Prop := (l.getD k false = false → Pre w) ∧ (l.getD k false = true → Post w)
section
variable {k i : Nat} {Pre Post : World → Prop} {l : Array Bool} {w w' : World}
theorem Ph.keep (h : Ph k Pre Post l w) (hi : i < l.size) (hk : i ≠ k) : Ph k Pre Post (l.setIfInBounds i true) w := by
 unfold Ph at *
 rwa [qk_ l i k hi hk]
theorem Ph.pre (h : Ph k Pre Post l w) (hl : (l.setIfInBounds i true).getD k false = false) (hi : i < l.size) (hk : i ≠ k) : Pre w := h.1 (by rw [← qk_ l i k hi hk]; exact hl)
theorem Ph.made (hl : (l.setIfInBounds i true).getD k false = false) (hp : Pre w') : Ph k Pre Post (l.setIfInBounds i true) w' := ⟨fun _ => hp, fun h => by rw [hl] at h; cases h⟩
theorem Ph.last (hi : k < l.size) (hp : Post w') : Ph k Pre Post (l.setIfInBounds k true) w' := ⟨fun h => (by rw [qp_ _ _ _ hi, if_pos rfl] at h; cases h), fun _ => hp⟩
theorem Ph.zero (hl : ∀ i, l.getD i false = false) (hp : Pre w) : Ph k Pre Post l w := ⟨fun _ => hp, fun h => by rw [hl] at h; cases h⟩
end
def PhA (k s : Nat) (Pre : World → Prop) (Post : Value → World → Prop) (l : Array Bool) (a : Act) (w : World) : Prop := (l.getD k false = false → Pre w) ∧ (l.getD k false = true → Post (a.eval (.tmp s)) w)
section
variable {k i s : Nat} {Pre : World → Prop} {Post : Value → World → Prop} {l : Array Bool} {a : Act} {w w' : World}
theorem PhA.keep (h : PhA k s Pre Post l a w) (hi : i < l.size) (hk : i ≠ k) (d : Option Tmp) (u : Value) (hd : d ≠ some s) : PhA k s Pre Post (l.setIfInBounds i true) (a.put d u) w := by
 unfold PhA at *
 rwa [qk_ l i k hi hk, Act.eval_put (fun d' hdd e => hd (by rw [hdd]; cases e; rfl))]
theorem PhA.pre (h : PhA k s Pre Post l a w) (hl : (l.setIfInBounds i true).getD k false = false) (hi : i < l.size) (hk : i ≠ k) : Pre w := h.1 (by rw [← qk_ l i k hi hk]; exact hl)
theorem PhA.made {a' : Act} (hl : (l.setIfInBounds i true).getD k false = false) (hp : Pre w') : PhA k s Pre Post (l.setIfInBounds i true) a' w' := ⟨fun _ => hp, fun h => by rw [hl] at h; cases h⟩
theorem PhA.last (u : Value) (hi : k < l.size) (hp : Post (a.eval (.tmp s)) w') : PhA k s Pre Post (l.setIfInBounds k true) (a.put none u) w' := ⟨fun h => (by rw [qp_ _ _ _ hi, if_pos rfl] at h; cases h), fun _ => hp⟩
theorem PhA.zero (hl : ∀ i, l.getD i false = false) (hp : Pre w) : PhA k s Pre Post l a w := ⟨fun _ => hp, fun h => by rw [hl] at h; cases h⟩
end
section
variable {ρ : Operand → Value} {o : Oper} {w : World}
theorem ex_nil {x : Operand} {p : Addr} (ho : o.op = .nilCheck x) (hx : ρ x = .pointer (some p)) : (execOp ρ o).run Tryz.prog w = .ok (.value (.pointer (some p))) w := by
 unfold execOp
 simp only [ho, hx]
 rfl
theorem afield0 (w : World) (g : Nat) : (Instr.fieldAt 85 (.pointer (some ⟨g, 0, none⟩)) 0).run Tryz.prog w = .ok (.pointer (some ⟨g, 0, none⟩)) w := by kernel_rfl
theorem afield2 (w : World) (g : Nat) : (Instr.fieldAt 85 (.pointer (some ⟨g, 0, none⟩)) 2).run Tryz.prog w = .ok (.pointer (some ⟨g, 84, none⟩)) w := by kernel_rfl
theorem afield3 (w : World) (g : Nat) : (Instr.fieldAt 85 (.pointer (some ⟨g, 0, none⟩)) 3).run Tryz.prog w = .ok (.pointer (some ⟨g, 85, none⟩)) w := by kernel_rfl
theorem efield1 (w : World) (g : Nat) : (Instr.fieldAt 44 (.pointer (some ⟨g, 0, none⟩)) 1).run Tryz.prog w = .ok (.pointer (some ⟨g, 68, none⟩)) w := by kernel_rfl
theorem qcp_ {T : TypeId} {x : Operand} {n g m : Nat} (ho : o.op = .fieldAddr T x n) (hx : ρ x = .pointer (some ⟨g, 0, none⟩)) (hf : (Instr.fieldAt T (.pointer (some ⟨g, 0, none⟩)) n).run Tryz.prog w = .ok (.pointer (some ⟨g, m, none⟩)) w) : (execOp ρ o).run Tryz.prog w = .ok (.value (.pointer (some ⟨g, m, none⟩))) w := by
 unfold execOp
 simp only [ho, hx, Sem.run_bind, hf, Result.andThen_ok]
 rfl
theorem qaaf_ {p : Addr} {a : Option Addr} {n c : Nat} (h : w.cell? p = some (.slice a n c)) : (loadVar 83 p).run Tryz.prog w = .ok (.slice a n c) w := by
 go_simp
theorem qho_ {x : Operand} {p : Addr} {a : Option Addr} {n c : Nat} (ho : o.op = .load 83 x) (hx : ρ x = .pointer (some p)) (hc : w.cell? p = some (.slice a n c)) : (execOp ρ o).run Tryz.prog w = .ok (.value (.slice a n c)) w := by
 unfold execOp
 simp only [ho, hx, Instr.loadAt, Instr.sureAddr, Sem.run_bind, Sem.run_pure, Result.andThen_ok, qaaf_ hc]
theorem qva_ {p : Addr} {a : Option Addr} {n c : Nat} {u : Value} (hf : w.frozen? p = false) (hc : w.cell? p = some u) : (storeVar 83 p (.slice a n c)).run Tryz.prog w = .ok () (w.setCell p (.slice a n c)) := by
 go_simp
theorem qkv_ {x y : Operand} {p : Addr} {a : Option Addr} {n c : Nat} {u : Value} (ho : o.op = .store 83 x y) (hx : ρ x = .pointer (some p)) (hy : ρ y = .slice a n c) (hf : w.frozen? p = false) (hc : w.cell? p = some u) : (execOp ρ o).run Tryz.prog w = .ok .skip (w.setCell p (.slice a n c)) := by
 unfold execOp
 simp only [ho, hx, hy, Instr.storeAt, Instr.sureAddr, Sem.run_bind, Sem.run_pure, Result.andThen_ok, qva_ hf hc]
theorem qaag_ {p : Addr} {m : Option Nat} (h : w.cell? p = some (.map m)) : (loadVar 82 p).run Tryz.prog w = .ok (.map m) w := by
 go_simp
theorem qnp_ {x : Operand} {p : Addr} {m : Option Nat} (ho : o.op = .load 82 x) (hx : ρ x = .pointer (some p)) (hc : w.cell? p = some (.map m)) : (execOp ρ o).run Tryz.prog w = .ok (.value (.map m)) w := by
 unfold execOp
 simp only [ho, hx, Instr.loadAt, Instr.sureAddr, Sem.run_bind, Sem.run_pure, Result.andThen_ok, qaag_ hc]
theorem qjj_ {x : Operand} {g : Nat} {e : En} (ho : o.op = .load 44 x) (hx : ρ x = .pointer (some ⟨g, 0, none⟩)) (hg : w.rangeAt g 0 (enC e)) (hs : (enC e).length = 106) : (execOp ρ o).run Tryz.prog w = .ok (.value (.agg (enA e))) w :=
 ex_mid 44 ho hx Tryz.underlying44 rfl (eninfo.trans (by rw [hs])) hg
theorem qjk_ {x : Operand} {g : Nat} {s : Sp} (ho : o.op = .load 69 x) (hx : ρ x = .pointer (some ⟨g, 0, none⟩)) (hg : w.rangeAt g 0 (spC s)) (hs : (spC s).length = 38) : (execOp ρ o).run Tryz.prog w = .ok (.value (.agg (spA s))) w :=
 ex_mid 69 ho hx Tryz.underlying69 rfl (spinfo.trans (by rw [hs])) hg
theorem qru_ {x : Operand} {g off : Nat} {l : List UInt8} (ho : o.op = .load 28 x) (hx : ρ x = .pointer (some ⟨g, off, none⟩)) (hg : w.rangeAt g off (Lib.byteCells l)) (hs : l.length = 32) : (execOp ρ o).run Tryz.prog w = .ok (.value (.agg (bytesV l))) w := by
 have := ex_mid (P := Tryz.prog) (ρ := ρ) (o := o) (w := w) 28 ho hx (cs := Lib.byteCells l) Tryz.underlying28 rfl (hinfo.trans (by rw [qg_ hs])) hg
 rw [this, ← qac_]
theorem qnq_ {x : Operand} {g : Nat} {p : NN.Pr} (ho : o.op = .load 32 x) (hx : ρ x = .pointer (some ⟨g, 0, none⟩)) (hg : w.rangeAt g 0 (NN.prC p)) (hs : (NN.prC p).length = 83) : (execOp ρ o).run Tryz.prog w = .ok (.value (.agg (NN.prA p))) w :=
 ex_mid 32 ho hx Tryz.underlying32 rfl (NN.prinfo.trans (by rw [hs])) hg
theorem qnr_ {x y : Operand} {e : En} {s : Sp} (ho : o.op = .build 90 #[(0, x), (1, y)]) (hx : ρ x = .agg (enA e)) (hy : ρ y = .agg (spA s)) (he : e.ok) (hs : s.ok) : (execOp ρ o).run Tryz.prog w = .ok (.value (.agg (bkC e s).toArray)) w := by
 unfold execOp
 simp only [ho, Sem.run_bind]
 rw [show (#[(0, x), (1, y)] : Array (Nat × Operand)).map (fun (i, x) => (i, ρ x)) = #[(0, .agg (enA e)), (1, .agg (spA s))] by simp [hx, hy], run_build w 90 _ _ (qnl_ e s he hs)]
 rfl
theorem qwt_ : ∃ i z, Tryz.prog.info? 90 = some i ∧ i.zero = some z ∧ i.size = 144 ∧ i.bytes = 272 ∧ z.cells.size = 144 := qlz_ (by kernel_rfl) (by kernel_rfl) (by kernel_rfl)
theorem qvb_ (cs : Array Value) (h : cs.size = 144) (w : World) : (Instr.buildSlice 83 1 #[(0, .agg cs)]).run Tryz.prog w = .ok (.slice (some ⟨w.heap.size, 0, none⟩) 1 1) (w.alloc (.cells cs 90)) := by
 obtain ⟨i, z, hi, hz, h1, h2, h3⟩ := qwt_
 refine run_buildSlice w 83 90 1 _ cs i z Tryz.underlying83 hi hz (by rw [h1]; decide) (by rw [h1]; decide) ?_
 rw [h1]
 exact qoj_ 144 _ cs (by simp) h
theorem qns_ {x : Operand} {cs : Array Value} (ho : o.op = .buildSlice 83 1 #[(0, x)]) (hx : ρ x = .agg cs) (h : cs.size = 144) : (execOp ρ o).run Tryz.prog w = .ok (.value (.slice (some ⟨w.heap.size, 0, none⟩) 1 1)) (w.alloc (.cells cs 90)) :=
 qtr_ ho hx (qvb_ cs h w)
theorem qkw_ {x y : Operand} {v : Value} {n g : Nat} {xs : List Value} {e : En} {s : Sp} (he : e.ok) (hs : s.ok) (hx : ρ x = v) (hown : w.ownsRow 0 90 144 v n xs) (hy : ρ y = .slice (some ⟨g, 0, none⟩) 1 1) (hg : Has w g (bkC e s).toArray 90) (hn : n ≤ 1000) :
  ∃ v' w', (∀ o : Oper, o.op = .call { callee := .builtin .append, args := #[x, y], argTypes := #[83, 83] } → o.type = 83 → (execOp ρ o).run Tryz.prog w = .ok (.value v') w') ∧ w'.ownsRow 0 90 144 v' (n + 1) (xs ++ bkC e s) ∧ w.grownBy w' v.ownBlock ∧ (v'.ownBlock = v.ownBlock ∨ v'.ownBlock = some w.heap.size) := by
 obtain ⟨i, z, hi, hz, h1, h2, h3⟩ := qwt_
 obtain ⟨v', w', hr, g1, g2, _, g4⟩ := run_append_own_at (P := Tryz.prog) w 0 83 83 90 i z 144 272 Tryz.underlying83 hi hz h1 h2 h3 (by decide) v n xs hown ⟨g, 0, none⟩ 1 1 (bkC e s) (by rw [qdt_ he hs]) (fun j u hj => by
  rw [Addr.add_lit, Nat.zero_add, hg.cell j, List.getElem?_toArray]
  exact hj) (bkC_one e s) (by unfold maxLen; omega) (by omega) (Nat.zero_le _)
 refine ⟨v', w', fun o ho hty => ?_, g1, g2, g4⟩
 unfold execOp
 simp only [ho, hty, resolve, invoke, builtin, Sem.run_bind, Sem.run_pure, Result.andThen_ok, List.map_toArray, List.map_cons, List.map_nil, hx, hy, hr]
theorem qvc_ {x y z : Operand} {b : Nat} {k v : Value} {w' : World} (ho : o.op = .mapUpdate 82 x y z) (hx : ρ x = .map (some b)) (hy : ρ y = k) (hz : ρ z = v) (hr : (Instr.mapUpdate 82 (.map (some b)) k v).run Tryz.prog w = .ok () w') : (execOp ρ o).run Tryz.prog w = .ok .skip w' := by
 unfold execOp
 simp only [ho, hx, hy, hz, Sem.run_bind, Sem.run_pure, Result.andThen_ok, hr]
theorem ex_idx {T : TypeId} {x y : Operand} {g j m : Nat} {n c : Nat} (ho : o.op = .indexAddr T x y) (hx : ρ x = .slice (some ⟨g, 0, none⟩) n c) (hy : ρ y = .int .i64 (j : Int)) (hf : (Instr.indexAt T (.slice (some ⟨g, 0, none⟩) n c) (.int .i64 (j : Int))).run Tryz.prog w = .ok (.pointer (some ⟨g, m, none⟩)) w) : (execOp ρ o).run Tryz.prog w = .ok (.value (.pointer (some ⟨g, m, none⟩))) w := by
 unfold execOp
 simp only [ho, hx, hy, Sem.run_bind, hf, Result.andThen_ok]
 rfl
theorem bk_idx (w : World) (g j n c : Nat) (hj : j < n) : (Instr.indexAt 83 (.slice (some ⟨g, 0, none⟩) n c) (.int .i64 (j : Int))).run Tryz.prog w = .ok (.pointer (some ⟨g, j * 144, none⟩)) w := by
 go_simp
end
end Go.Proofs.YtkclahiiijfllaaGreatDoor.An
namespace Go.Proofs.YtkclahiiijfllaaGreatDoor.An
open Go.RowKit Mem Sc
open Ar (Ent Ru entZ)
theorem qnt_ (a : Option Addr) (n c : Nat) (L : List Gt) (hn : n = L.length) (hl : n ≤ 1000) (w : World) (hA : GatesAt w a L) :
  Calls Tryz.prog 57 #[.slice a n c] w fun e w' => ∃ a' c', e = .returned (.slice a' n c') ∧ (GatesAt w' a' L ∧ (0 < L.length → ∀ ad, a' = some ad → w.heap.size ≤ ad.block)) ∧ Below w.heap.size w w' := by
 cases a with
 | none =>
  have h0 : n = 0 := by
   by_cases h : 0 < L.length
   ·obtain ⟨_, _, e, _⟩ := hA h; cases e
   ·omega
  refine (qgv_ n c w).mono ?_
  rintro e w' ⟨rfl, rfl⟩
  exact ⟨none, 0, by rw [h0], ⟨fun h => absurd h (by omega), fun _ ad e => by cases e⟩, Below.refl _ _⟩
 | some ad =>
  by_cases h0 : 0 < L.length
  ·obtain ⟨ab, ao, e, hlt, hc⟩ := hA h0
   cases e
   have hlen : ∀ x ∈ L, (gtC x).length = 2 := (fun _ _ => rfl)
   refine (qdp_ ⟨ab, ao, none⟩ n c L hn hl w (fun j u hj => ?_)).mono ?_
   ·rw [Addr.add_lit]
    refine qgm_ gtC 2 (by decide) L hlen (fun i x hi => ?_) j u hj
    obtain ⟨h1, h2⟩ := List.getElem?_eq_some_iff.1 hi
    rw [← h2]; exact hc i h1
   ·rintro e w' ⟨v', rfl, ho, hb⟩
    obtain ⟨a', c', rfl, _, h3⟩ := qgl_ gtC 2 L hlen ho hn
    obtain ⟨g, rfl, h4, h5, h6⟩ := h3 (by omega)
    exact ⟨_, c', rfl, ⟨fun _ => ⟨g, 0, rfl, h5, fun i hi => by rw [Nat.zero_add]; exact h6 i _ (List.getElem?_eq_getElem hi)⟩, fun _ ad e => by cases e; exact h4⟩, hb⟩
  ·obtain rfl : L = [] := List.eq_nil_of_length_eq_zero (by omega)
   refine (qdp_ ad n c [] hn hl w (fun j u hj => by simp at hj)).mono ?_
   rintro e w' ⟨v', rfl, ho, hb⟩
   obtain ⟨a', c', rfl, _⟩ := qgl_ gtC 2 [] (fun x hx => by cases hx) ho hn
   exact ⟨a', c', rfl, ⟨fun h => by simp at h, fun h => by simp at h⟩, hb⟩
theorem qkx_ (a : Option Addr) (n c : Nat) (L : List Ck) (hn : n = L.length) (hl : n ≤ 1000) (w : World) (hA : ChecksAt w a L) :
  Calls Tryz.prog 58 #[.slice a n c] w fun e w' => ∃ a' c', e = .returned (.slice a' n c') ∧ (ChecksAt w' a' L ∧ (0 < L.length → ∀ ad, a' = some ad → w.heap.size ≤ ad.block)) ∧ Below w.heap.size w w' := by
 cases a with
 | none =>
  have h0 : n = 0 := by
   by_cases h : 0 < L.length
   ·obtain ⟨_, _, e, _⟩ := hA h; cases e
   ·omega
  refine (qgn_ n c w).mono ?_
  rintro e w' ⟨rfl, rfl⟩
  exact ⟨none, 0, by rw [h0], ⟨fun h => absurd h (by omega), fun _ ad e => by cases e⟩, Below.refl _ _⟩
 | some ad =>
  by_cases h0 : 0 < L.length
  ·obtain ⟨ab, ao, e, hlt, hc⟩ := hA h0
   cases e
   have hlen : ∀ x ∈ L, (ckC x).length = 33 := (fun x hx => qbt_ (by obtain ⟨i, hi, e⟩ := List.mem_iff_getElem.1 hx; rw [← e]; exact (hc i hi).1))
   refine (qcz_ ⟨ab, ao, none⟩ n c L (fun x hx => by obtain ⟨i, hi, e⟩ := List.mem_iff_getElem.1 hx; rw [← e]; exact (hc i hi).1) hn hl w (fun j u hj => ?_)).mono ?_
   ·rw [Addr.add_lit]
    refine qgm_ ckC 33 (by decide) L hlen (fun i x hi => ?_) j u hj
    obtain ⟨h1, h2⟩ := List.getElem?_eq_some_iff.1 hi
    rw [← h2]; exact (hc i h1).2
   ·rintro e w' ⟨v', rfl, ho, hb⟩
    obtain ⟨a', c', rfl, _, h3⟩ := qgl_ ckC 33 L hlen ho hn
    obtain ⟨g, rfl, h4, h5, h6⟩ := h3 (by omega)
    exact ⟨_, c', rfl, ⟨fun _ => ⟨g, 0, rfl, h5, fun i hi => ⟨(hc i hi).1, by rw [Nat.zero_add]; exact h6 i _ (List.getElem?_eq_getElem hi)⟩⟩, fun _ ad e => by cases e; exact h4⟩, hb⟩
  ·obtain rfl : L = [] := List.eq_nil_of_length_eq_zero (by omega)
   refine (qcz_ ad n c [] (fun x hx => by cases hx) hn hl w (fun j u hj => by simp at hj)).mono ?_
   rintro e w' ⟨v', rfl, ho, hb⟩
   obtain ⟨a', c', rfl, _⟩ := qgl_ ckC 33 [] (fun x hx => by cases hx) ho hn
   exact ⟨a', c', rfl, ⟨fun h => by simp at h, fun h => by simp at h⟩, hb⟩
theorem pr_set5 {p : NN.Pr} {t : Tl} (tt : p.tl = t.C) (a : Option Addr) (n c : Nat) : (NN.prA p).setIfInBounds 5 (.slice a n c) = NN.prA { p with tl := ({ t with ga := a, gn := n, gc := c } : Tl).C } := by
 unfold NN.prA NN.prC
 rw [tt, List.setIfInBounds_toArray]
 rfl
theorem pr_set6 {p : NN.Pr} {t : Tl} (tt : p.tl = t.C) (a : Option Addr) (n c : Nat) : (NN.prA p).setIfInBounds 6 (.slice a n c) = NN.prA { p with tl := ({ t with ca := a, cn := n, cc := c } : Tl).C } := by
 unfold NN.prA NN.prC
 rw [tt, List.setIfInBounds_toArray]
 rfl
theorem pr_sl5 {w : World} {k : Nat} {p : NN.Pr} {t : Tl} (h : NN.PrAt w k p) (tt : p.tl = t.C) (a : Option Addr) (n c : Nat) : NN.PrAt (w.setCell ⟨k, 5, none⟩ (.slice a n c)) k { p with tl := ({ t with ga := a, gn := n, gc := c } : Tl).C } := by
 have := NN.Has.set (i := 5) h (.slice a n c)
 rwa [pr_set5 tt] at this
theorem pr_sl6 {w : World} {k : Nat} {p : NN.Pr} {t : Tl} (h : NN.PrAt w k p) (tt : p.tl = t.C) (a : Option Addr) (n c : Nat) : NN.PrAt (w.setCell ⟨k, 6, none⟩ (.slice a n c)) k { p with tl := ({ t with ca := a, cn := n, cc := c } : Tl).C } := by
 have := NN.Has.set (i := 6) h (.slice a n c)
 rwa [pr_set6 tt] at this
def moved (p : NN.Pr) (t : Tl) (ga : Option Addr) (gc : Nat) (ca : Option Addr) (cc : Nat) : NN.Pr := { p with tl := ({ t with ga := ga, gc := gc, ca := ca, cc := cc } : Tl).C }
def movedT (t : Tl) (ga : Option Addr) (gc : Nat) (ca : Option Addr) (cc : Nat) : Tl := { t with ga := ga, gc := gc, ca := ca, cc := cc }
theorem qvd_ (t : Tl) (h : t.ok) : t.C.length = 78 := by unfold Tl.C; simp [h.1, qj_ h.2]
theorem qrv_ (p : NN.Pr) (t : Tl) (h : t.ok) (ga : Option Addr) (gc : Nat) (ca : Option Addr) (cc : Nat) : (moved p t ga gc ca cc).ok := qvd_ _ h
theorem qaah_ {w : World} {p : NN.Pr} {ops : Array Oper} {rest : List Oper} {o : Oper} {a : Act} {Q : Exit → Act → World → Prop} (hgd : o.guard = none) (x y : Operand) (ho : o.op = .store 32 x y) (g : Nat) (cz : Array Value) (p' : NN.Pr) (h1 : p'.one) (hx : a.eval x = .pointer (some ⟨g, 0, none⟩)) (hy : a.eval y = .agg cz) (e : cz = NN.prA p') (hs' : (NN.prA p').size = 83) (hg : NN.PrAt w g p) (hs : (NN.prA p).size = 83)
  (hk : wpList Tryz.prog ops Q rest (a.put o.dst undef) (w.setRow g (NN.prA p'))) : wpList Tryz.prog ops Q (o :: rest) a w := by
 subst e
 exact wpList_store_row hgd 32 x y ho g (NN.prA p') hx hy 32 (NN.prA p) (Has.out hg) (NN.prinfo.trans (by rw [hs'])) (by rw [hs, hs']) (all_oneCell_toArray (NN.prC_one h1)) hk
theorem qaai_ (w : World) (ob : Obj) : NN.PrAt ((w.alloc ob).alloc (.cells Tryz.zeroCells32 32)) (w.heap.size + 1) prZ := Has.new1 ob (NN.prA prZ) _
theorem qrw_ {w : World} {p : NN.Pr} {fn : Func} {q : Tmp} (hf : fn.results = #[.cell q 32]) (tmps : Array Value) (g : Nat) (hp : tmps.getD q undef = .pointer (some ⟨g, 0, none⟩)) (hg : NN.PrAt w g p) (hs : (NN.prA p).size = 83) :
  (results fn tmps).run Tryz.prog w = .ok (.agg (NN.prA p)) w :=
 results_cell_row hf tmps w g 32 (NN.prA p) (0, 0) _ hp (Has.out hg) Tryz.underlying32 rfl (NN.prinfo.trans (by rw [hs]))
theorem qmk_ {B : Nat} {w w' : World} (h : Below B w w') (p : Addr) (v : Value) (hp : B ≤ p.block) : Below B w (w'.setCell p v) := h.setCell hp v
theorem qaaj_ (p : NN.Pr) (hp : p.ok) (h1 : p.one) (t : Tl) (tt : p.tl = t.C) (ht : t.ok) (G K : World → Option Addr → Prop) (w : World)
  (KG : Hid (∀ w', Below w.heap.size w w' → w.heap.size + 2 ≤ w'.heap.size → Calls Tryz.prog 57 #[.slice t.ga t.gn t.gc] w' fun e w'' => ∃ a' c', e = .returned (.slice a' t.gn c') ∧ G w'' a' ∧ Below w'.heap.size w' w''))
  (KC : Hid (∀ w', Below w.heap.size w w' → w.heap.size + 2 ≤ w'.heap.size → Calls Tryz.prog 58 #[.slice t.ca t.cn t.cc] w' fun e w'' => ∃ a' c', e = .returned (.slice a' t.cn c') ∧ K w'' a' ∧ Below w'.heap.size w' w'')) :
  Calls Tryz.prog 31 #[.agg (NN.prA p)] w fun e w' => ∃ ga gc ca cc, e = .returned (.agg (NN.prA (moved p t ga gc ca cc))) ∧ (∃ w1, G w1 ga ∧ Kp (fun i => i = w.heap.size ∨ i = w.heap.size + 1) w1 w') ∧ (∃ w1, K w1 ca ∧ Kp (fun i => i = w.heap.size ∨ i = w.heap.size + 1) w1 w') ∧ Below w.heap.size w w' := by
 have hz := NN.qal_ hp
 have z0 := NN.qal_ prZ_ok
 go_enter Tryz.func31, Tryz.ntmps31
 go_upto_region 1 with fail
 generalize hw0 : World.alloc _ _ = v0
 have hB : Below w.heap.size w v0 := by rw [← hw0]; exact ((Below.refl _ _).alloc (Nat.le_refl _) _).alloc (by simp) _
 have hP : NN.PrAt v0 w.heap.size p := by rw [← hw0]; exact (NN.Has.new _ _).alloc _
 have hsz0 : w.heap.size + 2 ≤ v0.heap.size := by rw [← hw0]; simp
 have hR : NN.PrAt v0 (w.heap.size + 1) prZ := by rw [← hw0]; exact qaai_ w _
 clear hw0
 obtain ⟨bP, hbP⟩ : ∃ x, x = w.heap.size := ⟨_, rfl⟩
 obtain ⟨bR, hbR⟩ : ∃ x, x = w.heap.size + 1 := ⟨_, rfl⟩
 rw [← hbR] at hR ⊢
 rw [← hbP] at hP ⊢
 have HP : Hid (bP = w.heap.size) := Lib.hid hbP
 have HR : Hid (bR = w.heap.size + 1) := Lib.hid hbR
 have n1 : bP ≠ bR := by omega
 clear hbP hbR
 have c5 := qdr_ hP tt
 go_wp2_with fail
 refine (KG.out _ hB hsz0).mono ?_
 rintro e v1 ⟨ga, gc, rfl, hg, hb⟩
 replace hP := hP.on hb
 replace hR := hR.on hb
 replace hB := hB.trans (hb.mono hB.size)
 have hsz1 : w.heap.size + 2 ≤ v1.heap.size := Nat.le_trans hsz0 hb.size
 clear hb c5 hsz0
 have c5 := qdr_ hP tt
 have f5 := Has.free hP 5
 go_upto_region 2 with fail
 have hP2 := pr_sl5 hP tt ga t.gn gc
 have hR2 : NN.PrAt (v1.setCell ⟨bP, 5, none⟩ (.slice ga t.gn gc)) bR prZ := Has.other hR _ _ (fun e => n1 e.symm)
 have hB2 : Below w.heap.size w (v1.setCell ⟨bP, 5, none⟩ (.slice ga t.gn gc)) := qmk_ hB _ _ (by rw [← HP.out]; exact Nat.le_refl _)
 have hk2 : Kp (fun i => i = bP ∨ i = bR) v1 (v1.setCell ⟨bP, 5, none⟩ (.slice ga t.gn gc)) := Kp.gb (qcx_ v1 bP 5 _) (fun k hk => .inl (Option.some.inj hk).symm)
 have hsz2 : w.heap.size + 2 ≤ (v1.setCell ⟨bP, 5, none⟩ (.slice ga t.gn gc)).heap.size := Nat.le_trans hsz1 hk2.size
 clear hsz1
 generalize World.setCell _ _ _ = v2 at *
 clear c5 f5 hP hR hB
 have c6 := qcy_ hP2 (t := { t with ga := ga, gc := gc }) rfl
 simp only at c6
 go_wp2_with fail
 refine (KC.out _ hB2 hsz2).mono ?_
 rintro e v3 ⟨ca, cc, rfl, hk, hb⟩
 replace hP2 := hP2.on hb
 replace hR2 := hR2.on hb
 replace hB2 := hB2.trans (hb.mono hB2.size)
 replace hk2 : Kp (fun i => i = bP ∨ i = bR) v1 v3 := hk2.trans (Kp.of (F := fun i => i = bP ∨ i = bR) hb) (fun i hi _ => hi)
 clear hb c6
 have c6 := qcy_ hP2 (t := { t with ga := ga, gc := gc }) rfl
 simp only at c6
 have f6 := Has.free hP2 6
 go_upto_region 3 with fail
 have hP4 := pr_sl6 hP2 (t := { t with ga := ga, gc := gc }) rfl ca t.cn cc
 have hR4 : NN.PrAt (v3.setCell ⟨bP, 6, none⟩ (.slice ca t.cn cc)) bR prZ := Has.other hR2 _ _ (fun e => n1 e.symm)
 have hB4 : Below w.heap.size w (v3.setCell ⟨bP, 6, none⟩ (.slice ca t.cn cc)) := qmk_ hB2 _ _ (by rw [← HP.out]; exact Nat.le_refl _)
 have hk3 : Kp (fun i => i = bP ∨ i = bR) v3 (v3.setCell ⟨bP, 6, none⟩ (.slice ca t.cn cc)) := Kp.gb (qcx_ v3 bP 6 _) (fun k hk => .inl (Option.some.inj hk).symm)
 generalize World.setCell _ _ _ = v4 at *
 replace hk2 := hk2.trans hk3 (fun i hi _ => hi)
 clear c6 f6 hP2 hR2 hB2
 have hP5 : NN.PrAt v4 bP (moved p t ga gc ca cc) := hP4
 clear hP4
 have z5 := NN.qal_ (qrv_ p t ht ga gc ca cc)
 have o5 : (moved p t ga gc ca cc).one := by
  intro v hv
  have hv' : v ∈ (Value.slice ga t.gn gc :: Value.slice ca t.cn cc :: (t.nn ++ hdC t.g)) := hv
  simp only [List.mem_cons] at hv'
  rcases hv' with rfl | rfl | hv'
  ·rfl
  ·rfl
  ·exact h1 v (by rw [tt]; unfold Tl.C; simp only [List.mem_cons]; exact .inr (.inr hv'))
 obtain ⟨q, hq⟩ : ∃ q, q = moved p t ga gc ca cc := ⟨_, rfl⟩
 rw [← hq] at hP5 z5 o5
 have HQ := Lib.hid hq
 clear hq
 have HRle : Hid (w.heap.size ≤ bR) := Lib.hid (by rw [HR.out]; omega)
 go_wp2_with (first
  | (with_reducible refine NN.qh_ rfl _ rfl _ rfl hP5 z5 ?_)
  | (with_reducible refine qaah_ rfl _ _ rfl _ _ q o5 rfl rfl rfl z5 hR4 z0 ?_))
 have hk5 : Kp (fun i => i = bP ∨ i = bR) v4 (v4.setRow bR (NN.prA q)) := ⟨rfl, rfl, rfl, by rw [setRow_size]; exact Nat.le_refl _, fun k _ hn => setRow_other v4 bR k _ (fun e => hn (.inr e))⟩
 refine bodyPost_ret (qrw_ Tryz.results31 _ _ rfl (Has.row hR4 _) z5) rfl ⟨ga, gc, ca, cc, HQ.out ▸ rfl, ⟨v1, hg, ?_⟩, ⟨v3, hk, ?_⟩, below_setRow hB4 HRle.out _⟩
 ·exact (hk2.trans hk5 (fun i hi _ => hi)).mono (fun i hi _ => hi.elim (fun h => .inl (h.trans HP.out)) (fun h => .inr (h.trans HR.out)))
 ·exact (hk3.trans hk5 (fun i hi _ => hi)).mono (fun i hi _ => hi.elim (fun h => .inl (h.trans HP.out)) (fun h => .inr (h.trans HR.out)))
theorem qve_ (p : NN.Pr) (hp : p.ok) (h1 : p.one) (t : Tl) (tt : p.tl = t.C) (ht : t.ok) (gs : List Gt) (cs : List Ck) (hgn : t.gn = gs.length) (hcn : t.cn = cs.length) (hgl : t.gn ≤ 1000) (hcl : t.cn ≤ 1000) (w : World) (hG : GatesAt w t.ga gs) (hC : ChecksAt w t.ca cs) :
  Calls Tryz.prog 31 #[.agg (NN.prA p)] w fun e w' => ∃ ga gc ca cc, e = .returned (.agg (NN.prA (moved p t ga gc ca cc))) ∧ Sup (fun i => w.heap.size ≤ i) (fun w => GatesAt w ga gs) w' ∧ Sup (fun i => w.heap.size ≤ i) (fun w => ChecksAt w ca cs) w' ∧ Below w.heap.size w w' := by
 refine (qaaj_ p hp h1 t tt ht (fun w1 a => GatesAt w1 a gs ∧ (0 < gs.length → ∀ ad, a = some ad → w.heap.size + 2 ≤ ad.block)) (fun w1 a => ChecksAt w1 a cs ∧ (0 < cs.length → ∀ ad, a = some ad → w.heap.size + 2 ≤ ad.block)) w ?_ ?_).mono ?_
 ·refine Lib.hid fun w' hb hs => (qnt_ t.ga t.gn t.gc gs hgn hgl w' (hG.below hb)).mono ?_
  rintro e w2 ⟨a', c', rfl, ⟨q1, q2⟩, q3⟩
  exact ⟨a', c', rfl, ⟨q1, fun h0 ad e => Nat.le_trans hs (q2 h0 ad e)⟩, q3⟩
 ·refine Lib.hid fun w' hb hs => (qkx_ t.ca t.cn t.cc cs hcn hcl w' (hC.below hb)).mono ?_
  rintro e w2 ⟨a', c', rfl, ⟨q1, q2⟩, q3⟩
  exact ⟨a', c', rfl, ⟨q1, fun h0 ad e => Nat.le_trans hs (q2 h0 ad e)⟩, q3⟩
 ·rintro e w' ⟨ga, gc, ca, cc, rfl, ⟨w1, ⟨q1, q2⟩, q3⟩, ⟨w2, ⟨q4, q5⟩, q6⟩, hb⟩
  refine ⟨ga, gc, ca, cc, rfl, ?_, ?_, hb⟩
  ·refine (Sup.on (quy_ (I := fun i => w.heap.size + 2 ≤ i) q1 q2) q3 (fun i hi h => ?_)).wide fun i hi => by omega
   rcases h with h | h <;> omega
  ·refine (Sup.on (qrn_ (I := fun i => w.heap.size + 2 ≤ i) q4 q5) q6 (fun i hi h => ?_)).wide fun i hi => by omega
   rcases h with h | h <;> omega
end Go.Proofs.YtkclahiiijfllaaGreatDoor.An
namespace Go.Proofs.YtkclahiiijfllaaGreatDoor.An
open Go.RowKit Mem Sc NN.Rg2
open Ar (Ent Ru entZ)
def StR (b : Nat) (v : Value) (e : En) (s : Sp) (bE bS : Nat) : Nat → Value → Prop
 | 0, u => u = .pointer (some ⟨b, 0, none⟩)
 | 1, u => u = .pointer (some ⟨b, 0, none⟩)
 | 2, u => u = .pointer (some ⟨b, 0, none⟩)
 | 3, u => u = .pointer (some ⟨b, 84, none⟩)
 | 4, u => u = v
 | 5, u => u = .agg (enA e)
 | 6, u => u = .agg (spA s)
 | 7, u => u = .agg (bkC e s).toArray
 | 10, u => u = .pointer (some ⟨b, 0, none⟩)
 | 11, u => u = .pointer (some ⟨b, 84, none⟩)
 | _, _ => bE = bE ∧ bS = bS
def MuR (b mb bE : Nat) (e : En) (n : Nat) : Nat → Value → Prop
 | 0, u => u = .pointer (some ⟨b, 0, none⟩)
 | 1, u => u = .pointer (some ⟨b, 0, none⟩)
 | 2, u => u = .pointer (some ⟨b, 85, none⟩)
 | 3, u => u = .map (some mb)
 | 4, u => u = .pointer (some ⟨bE, 68, none⟩)
 | 5, u => u = .agg (bytesV e.id)
 | 6, u => u = .int .i64 (n : Int)
 | _, _ => n = n
def StI (v1 : World) (b : Nat) (p : NN.Pr) (room : Nat) (v : Value) (mb n : Nat) (xs : List Value) (e : En) (s : Sp) (l : Array Bool) (a : Act) (w : World) : Prop :=
 (l.getD 8 false = true → l.getD 9 false = false → ∃ g, a.eval (.tmp 21) = .slice (some ⟨g, 0, none⟩) 1 1 ∧ Has w g (bkC e s).toArray 90) ∧
 (l.getD 9 false = false → w.ownsRow 0 90 144 v n xs) ∧
 (l.getD 9 false = true → l.getD 12 false = false → ∃ v', a.eval (.tmp 22) = v' ∧ w.ownsRow 0 90 144 v' (n + 1) (xs ++ bkC e s) ∧ (v'.ownBlock = v.ownBlock ∨ ∃ g, v'.ownBlock = some g ∧ v1.heap.size ≤ g)) ∧
 (l.getD 12 false = false → Has w b (arA p room v mb) 85) ∧
 (l.getD 12 false = true → ∃ v', Has w b (arA p room v' mb) 85 ∧ w.ownsRow 0 90 144 v' (n + 1) (xs ++ bkC e s) ∧ (v'.ownBlock = v.ownBlock ∨ ∃ g, v'.ownBlock = some g ∧ v1.heap.size ≤ g))
theorem StI.keep {v1 : World} {b : Nat} {p : NN.Pr} {room : Nat} {v : Value} {mb n : Nat} {xs : List Value} {e : En} {s : Sp} {l : Array Bool} {a : Act} {w : World} (h : StI v1 b p room v mb n xs e s l a w) (i : Nat) (hi : i < l.size) (h8 : i ≠ 8) (h9 : i ≠ 9) (h12 : i ≠ 12) (d : Option Tmp) (u : Value) (hd : d ≠ some 21) (hd2 : d ≠ some 22) :
  StI v1 b p room v mb n xs e s (l.setIfInBounds i true) (a.put d u) w := by
 obtain ⟨p1, p2, p3, p4, p5⟩ := h
 unfold StI
 rw [qk_ l i 8 hi h8, qk_ l i 9 hi h9, qk_ l i 12 hi h12, Act.eval_put (fun d' hdd e => hd (by rw [hdd]; cases e; rfl)), Act.eval_put (fun d' hdd e => hd2 (by rw [hdd]; cases e; rfl))]
 exact ⟨p1, p2, p3, p4, p5⟩
theorem store_w (b : Nat) (p : NN.Pr) (hp : p.ok) (room : Nat) (sa : Option Addr) (n c : Nat) (mb : Nat) (xs : List Value) (e : En) (he : e.ok) (s : Sp) (hs : s.ok) (hn : n ≤ 900) (w : World) (hA : Has w b (arA p room (.slice sa n c) mb) 85) (hrow : w.ownsRow 0 90 144 (.slice sa n c) n xs) (hbv : ∀ k, (Value.slice sa n c).ownBlock = some k → k ≠ b) (hbm : b ≠ mb)
  (Q : World → World → Prop)
  (KM : Hid (∀ v2 : World, v2.heap[mb]? = w.heap[mb]? → ∃ v3, (Instr.mapUpdate 82 (.map (some mb)) (.agg (bytesV e.id)) (.int .i64 (n : Int))).run Tryz.prog v2 = .ok () v3 ∧ Q v2 v3 ∧ v2.grownBy v3 (some mb))) (hmv : ∀ k, (Value.slice sa n c).ownBlock = some k → k ≠ mb) (hml : mb < w.heap.size) :
  Calls Tryz.prog 32 #[.pointer (some ⟨b, 0, none⟩), .agg (enA e), .agg (spA s)] w fun r w' => ∃ v' v2, r = .returned (.int .i64 (n : Int)) ∧ Has w' b (arA p room v' mb) 85 ∧ w'.ownsRow 0 90 144 v' (n + 1) (xs ++ bkC e s) ∧ (v'.ownBlock = (Value.slice sa n c).ownBlock ∨ ∃ g, v'.ownBlock = some g ∧ w.heap.size ≤ g) ∧ Kp (fun i => i = b ∨ i = mb ∨ (Value.slice sa n c).ownBlock = some i) w w' ∧ Q v2 w' := by
 have z1 := qbx_ he
 have z2 := qbu_ he
 have z3 := qah_ hs
 have z4 := qbs_ hs
 go_enter Tryz.func32, Tryz.ntmps32
 go_upto_region 1 with fail
 generalize hw0 : World.alloc _ _ = v0
 have hB : Below w.heap.size w v0 := by rw [← hw0]; exact ((Below.refl _ _).alloc (Nat.le_refl _) _).alloc (by simp) _
 have hE : EnAt v0 w.heap.size e := by rw [← hw0]; exact (Has.new _ _).alloc _
 have hS : SpAt v0 (w.heap.size + 1) s := by rw [← hw0]; exact Has.new1 _ (spA s) _
 clear hw0
 have hA0 : Has v0 b (arA p room (.slice sa n c) mb) 85 := qi_ hB hA (Has.lt hA)
 have hrow0 := kp_row hrow (Kp.of (F := fun _ => False) hB) (fun _ _ h => h)
 have hbl := Has.lt hA
 have hrl : ∀ k, (Value.slice sa n c).ownBlock = some k → k < w.heap.size := fun k hk => (row_lt hrow hk).1
 have HML := Lib.hid hml
 have hMB : v0.heap[mb]? = w.heap[mb]? := hB.block mb hml
 have HW : Hid (w.heap.size ≤ v0.heap.size) := Lib.hid hB.size
 obtain ⟨bE, hbE⟩ : ∃ x, x = w.heap.size := ⟨_, rfl⟩
 obtain ⟨bS, hbS⟩ : ∃ x, x = w.heap.size + 1 := ⟨_, rfl⟩
 rw [← hbS] at hS ⊢
 have HB := Lib.hid hB
 have hbE' : ∀ k, k < w.heap.size → k ≠ bE := fun k hk e => by omega
 have hbS' : ∀ k, k < w.heap.size → k ≠ bS := fun k hk e => by omega
 have HEE : Hid (bE = w.heap.size) := Lib.hid hbE
 rw [← hbE] at hE
 clear hrow hA hB hml hbS hbE
 have hv0 := ar84 hA0 hp
 rw [← HEE.out]
 go_upto_region 2 with fail
 generalize hv1 : v0 = v1 at *
 clear hv1
 have nE1 : ∀ k, (Value.slice sa n c).ownBlock = some k → k ≠ bE := fun k hk => hbE' k (hrl k hk)
 have nS1 : ∀ k, (Value.slice sa n c).ownBlock = some k → k ≠ bS := fun k hk => hbS' k (hrl k hk)
 have nE2 := hbE' b hbl
 have nS2 := hbS' b hbl
 have hz := ar84 hA0 hp
 clear hbE' hbS' hrl
 generalize hF : (fun i => i = b ∨ (Value.slice sa n c).ownBlock = some i) = F
 have fE : ¬ F bE := by rw [← hF]; exact fun h => h.elim (fun h => nE2 h.symm) (fun h => nE1 _ h rfl)
 have fS : ¬ F bS := by rw [← hF]; exact fun h => h.elim (fun h => nS2 h.symm) (fun h => nS1 _ h rfl)
 have fb : F b := by rw [← hF]; exact .inl rfl
 have fv : ∀ k, (Value.slice sa n c).ownBlock = some k → F k := fun k hk => by rw [← hF]; exact .inr hk
 have fm : ¬ F mb := by rw [← hF]; exact fun h => h.elim (fun h => hbm h.symm) (fun h => hmv _ h rfl)
 have fl : ∀ i, F i → i < v1.heap.size := fun i hi => by
  rw [← hF] at hi
  rcases hi with rfl | hi
  ·exact Has.lt hA0
  ·exact (row_lt hrow0 hi).1
 have HFE := Lib.hid hF
 clear hF
 refine ql_ (by kernel_rfl) (fun w' => Kp F v1 w') (fun i v' _ => StR b (.slice sa n c) e s bE bS i v') (fun l a w' => StI v1 b p room (.slice sa n c) mb n xs e s l a w') (fun _ _ => True) (fun _ _ => trivial) (fun _ _ _ _ _ _ h => h) (by kernel_rfl) (Kp.of (Below.refl _ _).drew) ?_ ?_ ?_
 ·exact fun l hl => ⟨fun h => (by rw [hl] at h; cases h), fun _ => hrow0, fun h => (by rw [hl] at h; cases h), fun _ => Has.drew hA0, fun h => (by rw [hl] at h; cases h)⟩
 ·intro i o listed a wx ho' hnl hdep hinv
  have hC := hinv.c
  have hI := hinv.i
  have hi : i < 13 := (Array.getElem?_eq_some_iff.1 ho').1
  have hEx : Has wx bE (enA e) 44 := hC.has hE fE
  have hSx : Has wx bS (spA s) 69 := hC.has hS fS
  have rE : wx.rangeAt bE 0 (enC e) := by
   have := qcg_ (A := []) (cs := enC e) (C := []) (o := 0) (w := wx) (b := bE) (t := 44) (by rw [List.append_nil]; exact hEx) rfl
   exact this
  have rS : wx.rangeAt bS 0 (spC s) := by
   have := qcg_ (A := []) (cs := spC s) (C := []) (o := 0) (w := wx) (b := bS) (t := 69) (by rw [List.append_nil]; exact hSx) rfl
   exact this
  have hlx : v1.heap.size ≤ wx.heap.size := hC.size
  obtain rfl | rfl | rfl | rfl | rfl | rfl | rfl | rfl | rfl | rfl | rfl | rfl | rfl : i = 0 ∨ i = 1 ∨ i = 2 ∨ i = 3 ∨ i = 4 ∨ i = 5 ∨ i = 6 ∨ i = 7 ∨ i = 8 ∨ i = 9 ∨ i = 10 ∨ i = 11 ∨ i = 12 := by omega
  all_goals obtain rfl := Option.some.inj ho'
  ·have hsz : 0 < listed.size := by rw [hinv.size]; decide
   exact qd_ (C := fun w' => Kp F v1 w') (S := fun _ _ => True) (R := fun v' _ => StR b (.slice sa n c) e s bE bS 0 v') (J := fun a w' => StI v1 b p room (.slice sa n c) mb n xs e s (listed.setIfInBounds 0 true) a w') (fun _ _ => trivial) hC (qa_ rfl) (NN.qbd_ rfl) (hinv.old' 0 (by kernel_rfl)) (hI.keep 0 hsz (by decide) (by decide) (by decide) _ _ (by decide) (by decide))
  ·have hsz : 1 < listed.size := by rw [hinv.size]; decide
   exact qd_ (C := fun w' => Kp F v1 w') (S := fun _ _ => True) (R := fun v' _ => StR b (.slice sa n c) e s bE bS 1 v') (J := fun a w' => StI v1 b p room (.slice sa n c) mb n xs e s (listed.setIfInBounds 1 true) a w') (fun _ _ => trivial) hC (qa_ rfl) (NN.qbd_ rfl) (hinv.old' 0 (by kernel_rfl)) (hI.keep 1 hsz (by decide) (by decide) (by decide) _ _ (by decide) (by decide))
  ·have hsz : 2 < listed.size := by rw [hinv.size]; decide
   exact qd_ (C := fun w' => Kp F v1 w') (S := fun _ _ => True) (R := fun v' _ => StR b (.slice sa n c) e s bE bS 2 v') (J := fun a w' => StI v1 b p room (.slice sa n c) mb n xs e s (listed.setIfInBounds 2 true) a w') (fun _ _ => trivial) hC (qa_ rfl) (ex_nil rfl (hinv.got 1 _ 14 rfl (hdep ⟨1, .data⟩ (by simp) rfl) rfl)) rfl (hI.keep 2 hsz (by decide) (by decide) (by decide) _ _ (by decide) (by decide))
  ·have hsz : 3 < listed.size := by rw [hinv.size]; decide
   exact qd_ (C := fun w' => Kp F v1 w') (S := fun _ _ => True) (R := fun v' _ => StR b (.slice sa n c) e s bE bS 3 v') (J := fun a w' => StI v1 b p room (.slice sa n c) mb n xs e s (listed.setIfInBounds 3 true) a w') (fun _ _ => trivial) hC (qa_ rfl) (qcp_ rfl (hinv.got 2 _ 15 rfl (hdep ⟨2, .data⟩ (by simp) rfl) rfl) (afield2 wx b)) rfl (hI.keep 3 hsz (by decide) (by decide) (by decide) _ _ (by decide) (by decide))
  ·have hsz : 4 < listed.size := by rw [hinv.size]; decide
   have h12 : (listed.setIfInBounds 4 true).getD 12 false = false := hinv.aheadT 12 (by kernel_rfl) hnl (by decide) (by decide)
   have hAx := hI.2.2.2.1 (by rw [← qk_ listed 4 12 hsz (by decide)]; exact h12)
   exact qd_ (C := fun w' => Kp F v1 w') (S := fun _ _ => True) (R := fun v' _ => StR b (.slice sa n c) e s bE bS 4 v') (J := fun a w' => StI v1 b p room (.slice sa n c) mb n xs e s (listed.setIfInBounds 4 true) a w') (fun _ _ => trivial) hC (qa_ rfl) (qho_ rfl (hinv.got 3 _ 16 rfl (hdep ⟨3, .data⟩ (by simp) rfl) rfl) (ar84 hAx hp)) rfl (hI.keep 4 hsz (by decide) (by decide) (by decide) _ _ (by decide) (by decide))
  ·have hsz : 5 < listed.size := by rw [hinv.size]; decide
   exact qd_ (C := fun w' => Kp F v1 w') (S := fun _ _ => True) (R := fun v' _ => StR b (.slice sa n c) e s bE bS 5 v') (J := fun a w' => StI v1 b p room (.slice sa n c) mb n xs e s (listed.setIfInBounds 5 true) a w') (fun _ _ => trivial) hC (qa_ rfl) (qjj_ rfl (hinv.old' 4 (by kernel_rfl)) rE z2) rfl (hI.keep 5 hsz (by decide) (by decide) (by decide) _ _ (by decide) (by decide))
  ·have hsz : 6 < listed.size := by rw [hinv.size]; decide
   exact qd_ (C := fun w' => Kp F v1 w') (S := fun _ _ => True) (R := fun v' _ => StR b (.slice sa n c) e s bE bS 6 v') (J := fun a w' => StI v1 b p room (.slice sa n c) mb n xs e s (listed.setIfInBounds 6 true) a w') (fun _ _ => trivial) hC (qa_ rfl) (qjk_ rfl (hinv.old' 5 (by kernel_rfl)) rS z4) rfl (hI.keep 6 hsz (by decide) (by decide) (by decide) _ _ (by decide) (by decide))
  ·have hsz : 7 < listed.size := by rw [hinv.size]; decide
   exact qd_ (C := fun w' => Kp F v1 w') (S := fun _ _ => True) (R := fun v' _ => StR b (.slice sa n c) e s bE bS 7 v') (J := fun a w' => StI v1 b p room (.slice sa n c) mb n xs e s (listed.setIfInBounds 7 true) a w') (fun _ _ => trivial) hC (qa_ rfl) (qnr_ rfl (hinv.got 5 _ 18 rfl (hdep ⟨5, .data⟩ (by simp) rfl) rfl) (hinv.got 6 _ 19 rfl (hdep ⟨6, .data⟩ (by simp) rfl) rfl) he hs) rfl (hI.keep 7 hsz (by decide) (by decide) (by decide) _ _ (by decide) (by decide))
  ·have hsz : 8 < listed.size := by rw [hinv.size]; decide
   have h9 : (listed.setIfInBounds 8 true).getD 9 false = false := hinv.aheadT 9 (by kernel_rfl) hnl (by decide) (by decide)
   have h12 : (listed.setIfInBounds 8 true).getD 12 false = false := hinv.aheadT 12 (by kernel_rfl) hnl (by decide) (by decide)
   have hbx : Below wx.heap.size wx (wx.alloc (.cells (bkC e s).toArray 90)) := (Below.refl _ _).alloc (Nat.le_refl _) _
   refine qaf_ (C := fun w' => Kp F v1 w') (S := fun _ _ => True) (R := fun v' _ => StR b (.slice sa n c) e s bE bS 8 v') (J := fun a w' => StI v1 b p room (.slice sa n c) mb n xs e s (listed.setIfInBounds 8 true) a w') (qa_ rfl) (qns_ rfl (hinv.got 7 _ 20 rfl (hdep ⟨7, .data⟩ (by simp) rfl) rfl) (by rw [List.size_toArray, qdt_ he hs])) (hC.trans (Kp.of (F := F) hbx) (fun i hi _ => hi)) trivial ⟨rfl, rfl⟩ ⟨fun _ _ => ⟨wx.heap.size, ?_, Has.new _ _⟩, fun _ => ?_, fun h => (by rw [h9] at h; cases h), fun _ => ?_, fun h => (by rw [h12] at h; cases h)⟩
   ·exact qbc_ a 21 _ (by rw [hinv.tsize]; exact (show 21 < 33 by decide))
   ·exact kp_row (hI.2.1 (by rw [← qk_ listed 8 9 hsz (by decide)]; exact h9)) (Kp.of (F := fun _ => False) hbx) (fun _ _ h => h)
   ·exact Has.alloc (hI.2.2.2.1 (by rw [← qk_ listed 8 12 hsz (by decide)]; exact h12)) _
  ·have hsz : 9 < listed.size := by rw [hinv.size]; decide
   have h8 : listed.getD 8 false = true := hdep ⟨8, .data⟩ (by simp) rfl
   have h9 : listed.getD 9 false = false := hnl
   have h12 : (listed.setIfInBounds 9 true).getD 12 false = false := hinv.aheadT 12 (by kernel_rfl) hnl (by decide) (by decide)
   have h12' : listed.getD 12 false = false := by rw [← qk_ listed 9 12 hsz (by decide)]; exact h12
   obtain ⟨g, hg, hgh⟩ := hI.1 h8 h9
   have hrx := hI.2.1 h9
   have hAx := hI.2.2.2.1 h12'
   obtain ⟨v', w', hr, g1, g2, g3⟩ := qkw_ (ρ := a.eval) (x := .tmp 17) (y := .tmp 21) he hs (hinv.got 4 _ 17 rfl (hdep ⟨4, .data⟩ (by simp) rfl) rfl) hrx hg hgh (by omega)
   refine qaf_ (C := fun w' => Kp F v1 w') (S := fun _ _ => True) (R := fun v' _ => StR b (.slice sa n c) e s bE bS 9 v') (J := fun a w' => StI v1 b p room (.slice sa n c) mb n xs e s (listed.setIfInBounds 9 true) a w') (qa_ rfl) (hr _ rfl rfl) (hC.trans (Kp.gb (F := F) g2 (fun k hk => fv k hk)) (fun i hi _ => hi)) trivial ⟨rfl, rfl⟩ ⟨fun _ h => (by rw [qp_ _ _ _ hsz, if_pos rfl] at h; cases h), fun h => (by rw [qp_ _ _ _ hsz, if_pos rfl] at h; cases h), fun _ _ => ⟨v', ?_, g1, ?_⟩, fun _ => ?_, fun h => (by rw [h12] at h; cases h)⟩
   ·exact qbc_ a 22 _ (by rw [hinv.tsize]; exact (show 22 < 33 by decide))
   ·rcases g3 with g3 | g3
    ·exact .inl g3
    ·exact .inr ⟨_, g3, hlx⟩
   ·exact (g2.block b (Has.lt hAx) (fun hk => hbv b hk.symm rfl)).trans hAx
  ·have hsz : 10 < listed.size := by rw [hinv.size]; decide
   exact qd_ (C := fun w' => Kp F v1 w') (S := fun _ _ => True) (R := fun v' _ => StR b (.slice sa n c) e s bE bS 10 v') (J := fun a w' => StI v1 b p room (.slice sa n c) mb n xs e s (listed.setIfInBounds 10 true) a w') (fun _ _ => trivial) hC (qa_ rfl) (ex_nil rfl (hinv.got 0 _ 13 rfl (hdep ⟨0, .data⟩ (by simp) rfl) rfl)) rfl (hI.keep 10 hsz (by decide) (by decide) (by decide) _ _ (by decide) (by decide))
  ·have hsz : 11 < listed.size := by rw [hinv.size]; decide
   exact qd_ (C := fun w' => Kp F v1 w') (S := fun _ _ => True) (R := fun v' _ => StR b (.slice sa n c) e s bE bS 11 v') (J := fun a w' => StI v1 b p room (.slice sa n c) mb n xs e s (listed.setIfInBounds 11 true) a w') (fun _ _ => trivial) hC (qa_ rfl) (qcp_ rfl (hinv.got 10 _ 23 rfl (hdep ⟨10, .data⟩ (by simp) rfl) rfl) (afield2 wx b)) rfl (hI.keep 11 hsz (by decide) (by decide) (by decide) _ _ (by decide) (by decide))
  ·have hsz : 12 < listed.size := by rw [hinv.size]; decide
   have h9 : listed.getD 9 false = true := hdep ⟨9, .data⟩ (by simp) rfl
   obtain ⟨v', hv', hr', hl'⟩ := hI.2.2.1 h9 hnl
   have hAx := hI.2.2.2.1 hnl
   obtain ⟨a', m', c', rfl⟩ := qii_ hr'
   have hn9 : (listed.setIfInBounds 12 true).getD 9 false = true := by rw [qk_ listed 12 9 hsz (by decide)]; exact h9
   have e12 : (listed.setIfInBounds 12 true).getD 12 false = true := by rw [qp_ _ _ _ hsz, if_pos rfl]
   have nb : ∀ k, (Value.slice a' m' c').ownBlock = some k → k ≠ b := fun k hk => by
    rcases hl' with h | ⟨g, h, hg⟩
    ·exact hbv k (h.symm.trans hk)
    ·rw [h] at hk
     have hkg : g = k := Option.some.inj hk
     have := Has.lt hA0
     omega
   have kb : Kp (fun i => i = b) wx (wx.setCell ⟨b, 84, none⟩ (.slice a' m' c')) := Kp.gb (qcx_ wx b 84 _) (fun k hk => (Option.some.inj hk).symm)
   refine qx_ (C := fun w' => Kp F v1 w') (S := fun _ _ => True) (R := fun v' _ => StR b (.slice sa n c) e s bE bS 12 v') (J := fun a w' => StI v1 b p room (.slice sa n c) mb n xs e s (listed.setIfInBounds 12 true) a w') (qa_ rfl) (qkv_ rfl (hinv.got 11 _ 24 rfl (hdep ⟨11, .data⟩ (by simp) rfl) rfl) hv' (Has.free hAx 84) (ar84 hAx hp)) (hC.trans kb (fun i hi _ => by rw [hi]; exact fb)) trivial ⟨rfl, rfl⟩ ⟨fun _ h => (by rw [hn9] at h; cases h), fun h => (by rw [hn9] at h; cases h), fun _ h => (by rw [e12] at h; cases h), fun h => (by rw [e12] at h; cases h), fun _ => ⟨_, ar_set hAx hp _, ?_, hl'⟩⟩
   exact kp_row hr' kb fun i hi hib => nb i hi hib
 intro listed a' v2 hall hinv
 have hC := hinv.c
 obtain ⟨v', hA2, hrow2, hl2⟩ := hinv.i.2.2.2.2 (hall 12 (by decide))
 have e0 : a'.eval (.tmp 0) = .pointer (some ⟨b, 0, none⟩) := hinv.old' 0 (by kernel_rfl)
 have e4 : a'.eval (.tmp 4) = .pointer (some ⟨bE, 0, none⟩) := hinv.old' 4 (by kernel_rfl)
 have e7 : a'.eval (.tmp 7) = .int .i64 (n : Int) := hinv.old' 7 (by kernel_rfl)
 obtain ⟨u, hu⟩ : ∃ u : Nat → Value, ∀ t, u t = a'.eval (.tmp t) := ⟨_, fun _ => rfl⟩
 rw [qbh_ a' 33 u hinv.tsize hinv.defers hu]
 rw [← hu] at e0 e4 e7
 clear hu hinv hall
 show Exit.then _ _ _ (⟨#[u 0, u 1, u 2, u 3, u 4, u 5, u 6, u 7, u 8, u 9, u 10, u 11, u 12, u 13, u 14, u 15, u 16, u 17, u 18, u 19, u 20, u 21, u 22, u 23, u 24, u 25, u 26, u 27, u 28, u 29, u 30, u 31, u 32], []⟩ : Act) v2
 rw [e0, e4, e7]
 clear e0 e4 e7
 have hE2 : Has v2 bE (enA e) 44 := hC.has hE fE
 have rI : v2.rangeAt bE 68 (Lib.byteCells e.id) := qcg_ (A := hdC e.h) (cs := Lib.byteCells e.id) (C := .int .i64 e.up :: .int .i64 e.ht :: (NN.numC e.wk).toList) (o := 68) hE2 (qj_ he.1)
 have hM2 : v2.heap[mb]? = w.heap[mb]? := (hC.block mb (Nat.lt_of_lt_of_le HML.out HW.out) fm).trans hMB
 have hl2' : ∀ k, v'.ownBlock = some k → k < v2.heap.size := fun k hk => (row_lt hrow2 hk).1
 have nbv : ∀ k, v'.ownBlock = some k → k ≠ mb := fun k hk => by
  rcases hl2 with h | ⟨g, h, hg⟩
  ·exact hmv k (h.symm.trans hk)
  ·rw [h] at hk
   have hkg : g = k := Option.some.inj hk
   have := HML.out
   have := HW.out
   omega
 have hl3 : v'.ownBlock = (Value.slice sa n c).ownBlock ∨ ∃ g, v'.ownBlock = some g ∧ w.heap.size ≤ g := by
  rcases hl2 with h | ⟨g, h, hg⟩
  ·exact .inl h
  ·exact .inr ⟨g, h, Nat.le_trans HW.out hg⟩
 have HA2 := Lib.hid hA2
 have HR2 := Lib.hid hrow2
 have HK := Lib.hid ((Kp.of (F := F) HB.out).trans hC (fun i hi _ => hi))
 have cb := ar85 hA2 hp
 clear hC hA0 hrow0 hz hl2 hl2' hE2 hS hrow2 hA2 hE
 obtain ⟨v3, hrun, hQ, hg3⟩ := KM.out v2.drew (by rw [← hM2]; rfl)
 go_upto_region 3 with fail
 refine ql_ (by kernel_rfl) (fun _ => True) (fun i v' _ => MuR b mb bE e n i v') (fun l _ w' => Ph 7 (fun w' => w' = v2.drew) (fun w' => w' = v3) l w') (fun _ _ => True) (fun _ _ => trivial) (fun _ _ _ _ _ _ h => h) (by kernel_rfl) trivial ?_ ?_ ?_
 ·exact fun l hl => Ph.zero hl rfl
 ·intro i o listed a wx ho' hnl hdep hinv
  have hC := hinv.c
  have hI := hinv.i
  have hi : i < 8 := (Array.getElem?_eq_some_iff.1 ho').1
  obtain rfl | rfl | rfl | rfl | rfl | rfl | rfl | rfl : i = 0 ∨ i = 1 ∨ i = 2 ∨ i = 3 ∨ i = 4 ∨ i = 5 ∨ i = 6 ∨ i = 7 := by omega
  all_goals obtain rfl := Option.some.inj ho'
  ·have hsz : 0 < listed.size := by rw [hinv.size]; decide
   exact qd_ (C := fun _ => True) (S := fun _ _ => True) (R := fun v' _ => MuR b mb bE e n 0 v') (J := fun _ w' => Ph 7 (fun w' => w' = v2.drew) (fun w' => w' = v3) (listed.setIfInBounds 0 true) w') (fun _ _ => trivial) hC (qa_ rfl) (NN.qbd_ rfl) (hinv.old' 0 (by kernel_rfl)) (hI.keep hsz (by decide))
  ·have hsz : 1 < listed.size := by rw [hinv.size]; decide
   exact qd_ (C := fun _ => True) (S := fun _ _ => True) (R := fun v' _ => MuR b mb bE e n 1 v') (J := fun _ w' => Ph 7 (fun w' => w' = v2.drew) (fun w' => w' = v3) (listed.setIfInBounds 1 true) w') (fun _ _ => trivial) hC (qa_ rfl) (ex_nil rfl (hinv.got 0 _ 25 rfl (hdep ⟨0, .data⟩ (by simp) rfl) rfl)) rfl (hI.keep hsz (by decide))
  ·have hsz : 2 < listed.size := by rw [hinv.size]; decide
   exact qd_ (C := fun _ => True) (S := fun _ _ => True) (R := fun v' _ => MuR b mb bE e n 2 v') (J := fun _ w' => Ph 7 (fun w' => w' = v2.drew) (fun w' => w' = v3) (listed.setIfInBounds 2 true) w') (fun _ _ => trivial) hC (qa_ rfl) (qcp_ rfl (hinv.got 1 _ 26 rfl (hdep ⟨1, .data⟩ (by simp) rfl) rfl) (afield3 wx b)) rfl (hI.keep hsz (by decide))
  ·have hsz : 3 < listed.size := by rw [hinv.size]; decide
   have hw : wx = v2.drew := hI.pre (hinv.aheadT 7 (by kernel_rfl) hnl (by decide) (by decide)) hsz (by decide)
   exact qd_ (C := fun _ => True) (S := fun _ _ => True) (R := fun v' _ => MuR b mb bE e n 3 v') (J := fun _ w' => Ph 7 (fun w' => w' = v2.drew) (fun w' => w' = v3) (listed.setIfInBounds 3 true) w') (fun _ _ => trivial) hC (qa_ rfl) (qnp_ rfl (hinv.got 2 _ 27 rfl (hdep ⟨2, .data⟩ (by simp) rfl) rfl) (by rw [hw]; exact cb)) rfl (hI.keep hsz (by decide))
  ·have hsz : 4 < listed.size := by rw [hinv.size]; decide
   exact qd_ (C := fun _ => True) (S := fun _ _ => True) (R := fun v' _ => MuR b mb bE e n 4 v') (J := fun _ w' => Ph 7 (fun w' => w' = v2.drew) (fun w' => w' = v3) (listed.setIfInBounds 4 true) w') (fun _ _ => trivial) hC (qa_ rfl) (qcp_ rfl (hinv.old' 4 (by kernel_rfl)) (efield1 wx bE)) rfl (hI.keep hsz (by decide))
  ·have hsz : 5 < listed.size := by rw [hinv.size]; decide
   have hw : wx = v2.drew := hI.pre (hinv.aheadT 7 (by kernel_rfl) hnl (by decide) (by decide)) hsz (by decide)
   exact qd_ (C := fun _ => True) (S := fun _ _ => True) (R := fun v' _ => MuR b mb bE e n 5 v') (J := fun _ w' => Ph 7 (fun w' => w' = v2.drew) (fun w' => w' = v3) (listed.setIfInBounds 5 true) w') (fun _ _ => trivial) hC (qa_ rfl) (qru_ rfl (hinv.got 4 _ 29 rfl (hdep ⟨4, .data⟩ (by simp) rfl) rfl) (by rw [hw]; exact rI) he.2) rfl (hI.keep hsz (by decide))
  ·have hsz : 6 < listed.size := by rw [hinv.size]; decide
   exact qd_ (C := fun _ => True) (S := fun _ _ => True) (R := fun v' _ => MuR b mb bE e n 6 v') (J := fun _ w' => Ph 7 (fun w' => w' = v2.drew) (fun w' => w' = v3) (listed.setIfInBounds 6 true) w') (fun _ _ => trivial) hC (qa_ rfl) (NN.qbd_ rfl) (hinv.old' 7 (by kernel_rfl)) (hI.keep hsz (by decide))
  ·have hsz : 7 < listed.size := by rw [hinv.size]; decide
   have hw : wx = v2.drew := hI.1 hnl
   exact qx_ (C := fun _ => True) (S := fun _ _ => True) (R := fun v' _ => MuR b mb bE e n 7 v') (J := fun _ w' => Ph 7 (fun w' => w' = v2.drew) (fun w' => w' = v3) (listed.setIfInBounds 7 true) w') (qa_ rfl) (qvc_ rfl (hinv.got 3 _ 28 rfl (hdep ⟨3, .data⟩ (by simp) rfl) rfl) (hinv.got 5 _ 30 rfl (hdep ⟨5, .data⟩ (by simp) rfl) rfl) (hinv.got 6 _ 31 rfl (hdep ⟨6, .data⟩ (by simp) rfl) rfl) (by rw [hw]; exact hrun)) trivial trivial rfl (Ph.last hsz rfl)
 intro listed a' w4 hall hinv
 obtain rfl := hinv.i.2 (hall 7 (by decide))
 have e7 : a'.eval (.tmp 7) = .int .i64 (n : Int) := hinv.old' 7 (by kernel_rfl)
 obtain ⟨u, hu⟩ : ∃ u : Nat → Value, ∀ t, u t = a'.eval (.tmp t) := ⟨_, fun _ => rfl⟩
 rw [qbh_ a' 33 u hinv.tsize hinv.defers hu]
 rw [← hu] at e7
 clear hu hinv hall
 show Exit.then _ _ _ (⟨#[u 0, u 1, u 2, u 3, u 4, u 5, u 6, u 7, u 8, u 9, u 10, u 11, u 12, u 13, u 14, u 15, u 16, u 17, u 18, u 19, u 20, u 21, u 22, u 23, u 24, u 25, u 26, u 27, u 28, u 29, u 30, u 31, u 32], []⟩ : Act) w4
 rw [e7]
 clear e7
 have hK3 : Kp (fun i => i = mb) v2 w4 := (Kp.of (F := fun i => i = mb) (Below.refl _ v2).drew).trans (Kp.gb hg3 (fun k hk => (Option.some.inj hk).symm)) (fun i hi _ => hi)
 have hA4 := hK3.has HA2.out (fun e => hbm e)
 have hR4 := kp_row HR2.out hK3 (fun i hi e => nbv i hi e)
 have HK4 : Kp (fun i => i = b ∨ i = mb ∨ (Value.slice sa n c).ownBlock = some i) w w4 := (HK.out.mono (fun i hi _ => by rw [← HFE.out] at hi; exact hi.elim .inl (fun h => .inr (.inr h)))).trans hK3 (fun i hi _ => .inr (.inl hi))
 go_wp2_with fail
 go_ret
 exact ⟨v', _, rfl, hA4, hR4, hl3, HK4, hQ⟩
end Go.Proofs.YtkclahiiijfllaaGreatDoor.An
namespace Go.Proofs.YtkclahiiijfllaaGreatDoor.An
open Go.RowKit Mem Sc NN.Rg2
open Ar (Ent Ru entZ)
section
variable {ρ : Operand → Value} {o : Oper} {w : World}
theorem qib_ {T : TypeId} {x : Operand} {n g off m : Nat} (ho : o.op = .fieldAddr T x n) (hx : ρ x = .pointer (some ⟨g, off, none⟩)) (hf : (Instr.fieldAt T (.pointer (some ⟨g, off, none⟩)) n).run Tryz.prog w = .ok (.pointer (some ⟨g, m, none⟩)) w) : (execOp ρ o).run Tryz.prog w = .ok (.value (.pointer (some ⟨g, m, none⟩))) w := by
 unfold execOp
 simp only [ho, hx, Sem.run_bind, hf, Result.andThen_ok]
 rfl
theorem pfield9 (w : World) (g : Nat) : (Instr.fieldAt 32 (.pointer (some ⟨g, 0, none⟩)) 9).run Tryz.prog w = .ok (.pointer (some ⟨g, 15, none⟩)) w := by kernel_rfl
theorem hfield4o (w : World) (g : Nat) : (Instr.fieldAt 30 (.pointer (some ⟨g, 15, none⟩)) 4).run Tryz.prog w = .ok (.pointer (some ⟨g, 81, none⟩)) w := by kernel_rfl
theorem qfb_ {x : Operand} {g off : Nat} {h : Hd} (ho : o.op = .load 30 x) (hx : ρ x = .pointer (some ⟨g, off, none⟩)) (hg : w.rangeAt g off (hdC h)) (hs : (hdC h).length = 68) : (execOp ρ o).run Tryz.prog w = .ok (.value (.agg (hdA h))) w :=
 ex_mid 30 ho hx Tryz.underlying30 rfl (hdinfo.trans (by rw [hs])) hg
theorem qky_ {x0 x1 x2 x4 : Operand} {e : En} (ho : o.op = .build 44 #[(0, x0), (1, x1), (2, x2), (4, x4)]) (he : e.ok) (h0 : e.ht = 0) (hx0 : ρ x0 = .agg (hdA e.h)) (hx1 : ρ x1 = .agg (bytesV e.id)) (hx2 : ρ x2 = .int .i64 e.up) (hx4 : ρ x4 = .agg (NN.numC e.wk)) : (execOp ρ o).run Tryz.prog w = .ok (.value (.agg (enA e))) w := by
 unfold execOp
 simp only [ho, Sem.run_bind]
 rw [show (#[(0, x0), (1, x1), (2, x2), (4, x4)] : Array (Nat × Operand)).map (fun (i, x) => (i, ρ x)) = #[(0, .agg (hdA e.h)), (1, .agg (bytesV e.id)), (2, .int .i64 e.up), (4, .agg (NN.numC e.wk))] by simp [hx0, hx1, hx2, hx4], run_build w 44 _ _ (qux_ e he h0)]
 rfl
theorem qnu_ {x y : Operand} {g : Nat} {e : En} {cs : Array Value} (ho : o.op = .store 44 x y) (hx : ρ x = .pointer (some ⟨g, 0, none⟩)) (hy : ρ y = .agg (enA e)) (hg : Has w g cs 44) (hs : cs.size = 106) (hs' : (enA e).size = 106) : (execOp ρ o).run Tryz.prog w = .ok .skip (w.setRow g (enA e)) := by
 unfold execOp
 simp only [ho, hx, hy, Instr.storeAt, Instr.sureAddr, Sem.run_bind, Sem.run_pure, Result.andThen_ok, run_storeVar_row w g 44 44 cs (enA e) (Has.out hg) (eninfo.trans (by rw [hs'])) (by rw [hs, hs']) (qwq_ e)]
end
theorem qrx_ {w : World} {g o : Nat} {h : Hd} (ho : h.ok) (hr : w.rangeAt g o (hdC h)) : w.cell? ⟨g, o + 66, none⟩ = some (.int .i64 h.bits) := hr 66 _ (qfx_ ho 1)
def GnR (bP bR : Nat) (e : En) : Nat → Value → Prop
 | 0, u => u = .pointer (some ⟨bP, 15, none⟩)
 | 1, u => u = .agg (hdA e.h)
 | 2, u => u = .pointer (some ⟨bP, 15, none⟩)
 | 3, u => u = .agg (hdA e.h)
 | 4, u => u = .agg (bytesV e.id)
 | 5, u => u = .pointer (some ⟨bP, 15, none⟩)
 | 6, u => u = .pointer (some ⟨bP, 81, none⟩)
 | 7, u => u = .int .i64 e.h.bits
 | 8, u => u = .agg (NN.numC e.wk)
 | 9, u => u = .agg (enA e)
 | _, _ => bR = bR
theorem qvf_ (p : NN.Pr) (t : Tl) (tt : p.tl = t.C) (ht : t.ok) (e : En) (he : e.ok) (h0 : e.ht = 0) (hu : e.up = -1) (hg : e.h = t.g) (w : World)
  (KI : Hid (∀ w', Below w.heap.size w w' → Calls Tryz.prog 35 #[.agg (hdA e.h)] w' fun r w'' => r = .returned (.agg (bytesV e.id)) ∧ Below w'.heap.size w' w''))
  (KW : Hid (∀ w', Calls Tryz.prog 38 #[.int .i64 e.h.bits] w' fun r w'' => r = .returned (.agg (NN.numC e.wk)) ∧ Below w'.heap.size w' w'')) :
  Calls Tryz.prog 33 #[.agg (NN.prA p)] w fun r w' => r = .returned (.agg (enA e)) ∧ Below w.heap.size w w' := by
 have z0 := qbx_ enZ_ok
 have z1 := qbx_ he
 have z2 := qj_ he.1
 go_enter Tryz.func33, Tryz.ntmps33
 go_upto_region 1 with fail
 generalize hw0 : World.alloc _ _ = v0
 have hB : Below w.heap.size w v0 := by rw [← hw0]; exact ((Below.refl _ _).alloc (Nat.le_refl _) _).alloc (by simp) _
 have hP : NN.PrAt v0 w.heap.size p := by rw [← hw0]; exact (NN.Has.new _ _).alloc _
 have hR : EnAt v0 (w.heap.size + 1) enZ := by rw [← hw0]; exact Has.new1 _ (enA enZ) _
 clear hw0
 obtain ⟨bP, hbP⟩ : ∃ x, x = w.heap.size := ⟨_, rfl⟩
 obtain ⟨bR, hbR⟩ : ∃ x, x = w.heap.size + 1 := ⟨_, rfl⟩
 rw [← hbR] at hR ⊢
 rw [← hbP] at hP ⊢
 have hlt : bR < v0.heap.size := Has.lt hR
 have n1 : bP ≠ bR := by omega
 have HBR : Hid (w.heap.size ≤ bR) := Lib.hid (by omega)
 have HBP : Hid (bP = w.heap.size) := Lib.hid hbP
 clear hbP hbR
 refine ql_ (by kernel_rfl) (fun w' => Below w.heap.size w w' ∧ NN.PrAt w' bP p) (fun i v' _ => GnR bP bR e i v') (fun l _ w' => Ph 10 (fun w' => EnAt w' bR enZ) (fun w' => EnAt w' bR e) l w') (fun _ _ => True) (fun _ _ => trivial) (fun _ _ _ _ _ _ h => h) (by kernel_rfl) ⟨hB.trans ((Below.refl _ _).drew.mono hB.size), Has.drew hP⟩ ?_ ?_ ?_
 ·exact fun l hl => Ph.zero hl (Has.drew hR)
 ·intro i o listed a wx ho' hnl hdep hinv
  have hC := hinv.c
  have hI := hinv.i
  have hi : i < 11 := (Array.getElem?_eq_some_iff.1 ho').1
  have rP : wx.rangeAt bP 15 (hdC e.h) := by rw [hg]; exact pr_gen hC.2 tt ht
  have rB := qrx_ he.1 rP
  obtain rfl | rfl | rfl | rfl | rfl | rfl | rfl | rfl | rfl | rfl | rfl : i = 0 ∨ i = 1 ∨ i = 2 ∨ i = 3 ∨ i = 4 ∨ i = 5 ∨ i = 6 ∨ i = 7 ∨ i = 8 ∨ i = 9 ∨ i = 10 := by omega
  all_goals obtain rfl := Option.some.inj ho'
  ·have hsz : 0 < listed.size := by rw [hinv.size]; decide
   exact qd_ (C := (fun w' => Below w.heap.size w w' ∧ NN.PrAt w' bP p)) (S := (fun _ _ => True)) (R := fun v' _ => GnR bP bR e 0 v') (J := fun _ w' => Ph 10 (fun w' => EnAt w' bR enZ) (fun w' => EnAt w' bR e) (listed.setIfInBounds 0 true) w') (fun _ _ => trivial) hC (qa_ rfl) (qcp_ rfl (hinv.old' 1 (by kernel_rfl)) (pfield9 wx bP)) rfl (hI.keep hsz (by decide))
  ·have hsz : 1 < listed.size := by rw [hinv.size]; decide
   exact qd_ (C := (fun w' => Below w.heap.size w w' ∧ NN.PrAt w' bP p)) (S := (fun _ _ => True)) (R := fun v' _ => GnR bP bR e 1 v') (J := fun _ w' => Ph 10 (fun w' => EnAt w' bR enZ) (fun w' => EnAt w' bR e) (listed.setIfInBounds 1 true) w') (fun _ _ => trivial) hC (qa_ rfl) (qfb_ rfl (hinv.got 0 _ 3 rfl (hdep ⟨0, .data⟩ (by simp) rfl) rfl) rP z2) rfl (hI.keep hsz (by decide))
  ·have hsz : 2 < listed.size := by rw [hinv.size]; decide
   exact qd_ (C := (fun w' => Below w.heap.size w w' ∧ NN.PrAt w' bP p)) (S := (fun _ _ => True)) (R := fun v' _ => GnR bP bR e 2 v') (J := fun _ w' => Ph 10 (fun w' => EnAt w' bR enZ) (fun w' => EnAt w' bR e) (listed.setIfInBounds 2 true) w') (fun _ _ => trivial) hC (qa_ rfl) (qcp_ rfl (hinv.old' 1 (by kernel_rfl)) (pfield9 wx bP)) rfl (hI.keep hsz (by decide))
  ·have hsz : 3 < listed.size := by rw [hinv.size]; decide
   exact qd_ (C := (fun w' => Below w.heap.size w w' ∧ NN.PrAt w' bP p)) (S := (fun _ _ => True)) (R := fun v' _ => GnR bP bR e 3 v') (J := fun _ w' => Ph 10 (fun w' => EnAt w' bR enZ) (fun w' => EnAt w' bR e) (listed.setIfInBounds 3 true) w') (fun _ _ => trivial) hC (qa_ rfl) (qfb_ rfl (hinv.got 2 _ 5 rfl (hdep ⟨2, .data⟩ (by simp) rfl) rfl) rP z2) rfl (hI.keep hsz (by decide))
  ·have hsz : 4 < listed.size := by rw [hinv.size]; decide
   have hnK : (listed.setIfInBounds 4 true).getD 10 false = false := hinv.aheadT 10 (by kernel_rfl) hnl (by decide) (by decide)
   have hpre := hI.pre hnK hsz (by decide)
   exact qam_ (C := (fun w' => Below w.heap.size w w' ∧ NN.PrAt w' bP p)) (S := (fun _ _ => True)) (R := fun v' _ => GnR bP bR e 4 v') (J := fun _ w' => Ph 10 (fun w' => EnAt w' bR enZ) (fun w' => EnAt w' bR e) (listed.setIfInBounds 4 true) w') (qa_ rfl) (f := 35) (args := #[a.eval (.tmp 6)]) (by kernel_rfl) (by rw [show a.eval (.tmp 6) = _ from (hinv.got 3 _ 6 rfl (hdep ⟨3, .data⟩ (by simp) rfl) rfl)];  exact KI.out wx hC.1) (fun w' hb => ⟨⟨hC.1.trans (hb.mono hC.1.size), NN.PrAt.on hC.2 hb⟩, trivial, rfl, Ph.made hnK (EnAt.on hpre hb)⟩)
  ·have hsz : 5 < listed.size := by rw [hinv.size]; decide
   exact qd_ (C := (fun w' => Below w.heap.size w w' ∧ NN.PrAt w' bP p)) (S := (fun _ _ => True)) (R := fun v' _ => GnR bP bR e 5 v') (J := fun _ w' => Ph 10 (fun w' => EnAt w' bR enZ) (fun w' => EnAt w' bR e) (listed.setIfInBounds 5 true) w') (fun _ _ => trivial) hC (qa_ rfl) (qcp_ rfl (hinv.old' 1 (by kernel_rfl)) (pfield9 wx bP)) rfl (hI.keep hsz (by decide))
  ·have hsz : 6 < listed.size := by rw [hinv.size]; decide
   exact qd_ (C := (fun w' => Below w.heap.size w w' ∧ NN.PrAt w' bP p)) (S := (fun _ _ => True)) (R := fun v' _ => GnR bP bR e 6 v') (J := fun _ w' => Ph 10 (fun w' => EnAt w' bR enZ) (fun w' => EnAt w' bR e) (listed.setIfInBounds 6 true) w') (fun _ _ => trivial) hC (qa_ rfl) (qib_ rfl (hinv.got 5 _ 8 rfl (hdep ⟨5, .data⟩ (by simp) rfl) rfl) (hfield4o wx bP)) rfl (hI.keep hsz (by decide))
  ·have hsz : 7 < listed.size := by rw [hinv.size]; decide
   exact qd_ (C := (fun w' => Below w.heap.size w w' ∧ NN.PrAt w' bP p)) (S := (fun _ _ => True)) (R := fun v' _ => GnR bP bR e 7 v') (J := fun _ w' => Ph 10 (fun w' => EnAt w' bR enZ) (fun w' => EnAt w' bR e) (listed.setIfInBounds 7 true) w') (fun _ _ => trivial) hC (qa_ rfl) (NN.qbj_ rfl (hinv.got 6 _ 9 rfl (hdep ⟨6, .data⟩ (by simp) rfl) rfl) rB) rfl (hI.keep hsz (by decide))
  ·have hsz : 8 < listed.size := by rw [hinv.size]; decide
   have hnK : (listed.setIfInBounds 8 true).getD 10 false = false := hinv.aheadT 10 (by kernel_rfl) hnl (by decide) (by decide)
   have hpre := hI.pre hnK hsz (by decide)
   exact qam_ (C := (fun w' => Below w.heap.size w w' ∧ NN.PrAt w' bP p)) (S := (fun _ _ => True)) (R := fun v' _ => GnR bP bR e 8 v') (J := fun _ w' => Ph 10 (fun w' => EnAt w' bR enZ) (fun w' => EnAt w' bR e) (listed.setIfInBounds 8 true) w') (qa_ rfl) (f := 38) (args := #[a.eval (.tmp 10)]) (by kernel_rfl) (by rw [show a.eval (.tmp 10) = _ from (hinv.got 7 _ 10 rfl (hdep ⟨7, .data⟩ (by simp) rfl) rfl)];  exact KW.out wx) (fun w' hb => ⟨⟨hC.1.trans (hb.mono hC.1.size), NN.PrAt.on hC.2 hb⟩, trivial, rfl, Ph.made hnK (EnAt.on hpre hb)⟩)
  ·have hsz : 9 < listed.size := by rw [hinv.size]; decide
   exact qd_ (C := (fun w' => Below w.heap.size w w' ∧ NN.PrAt w' bP p)) (S := (fun _ _ => True)) (R := fun v' _ => GnR bP bR e 9 v') (J := fun _ w' => Ph 10 (fun w' => EnAt w' bR enZ) (fun w' => EnAt w' bR e) (listed.setIfInBounds 9 true) w') (fun _ _ => trivial) hC (qa_ rfl) (qky_ rfl he h0 (hinv.got 1 _ 4 rfl (hdep ⟨1, .data⟩ (by simp) rfl) rfl) (hinv.got 4 _ 7 rfl (hdep ⟨4, .data⟩ (by simp) rfl) rfl) (by rw [hu]; rfl) (hinv.got 8 _ 11 rfl (hdep ⟨8, .data⟩ (by simp) rfl) rfl)) rfl (hI.keep hsz (by decide))
  ·have hsz : 10 < listed.size := by rw [hinv.size]; decide
   have hR0 := hI.1 hnl
   exact qx_ (C := (fun w' => Below w.heap.size w w' ∧ NN.PrAt w' bP p)) (S := (fun _ _ => True)) (R := fun v' _ => GnR bP bR e 10 v') (J := fun _ w' => Ph 10 (fun w' => EnAt w' bR enZ) (fun w' => EnAt w' bR e) (listed.setIfInBounds 10 true) w') (qa_ rfl) (qnu_ rfl (hinv.old' 2 (by kernel_rfl)) (hinv.got 9 _ 12 rfl (hdep ⟨9, .data⟩ (by simp) rfl) rfl) hR0 z0 z1) ⟨below_setRow hC.1 HBR.out _, NN.Has.otherRow hC.2 _ _ n1⟩ trivial rfl (Ph.last hsz (Has.row hR0 _))
 intro listed a' v1 hall hinv
 have hC := hinv.c
 have hE := hinv.i.2 (hall 10 (by decide))
 have e2 : a'.eval (.tmp 2) = .pointer (some ⟨bR, 0, none⟩) := hinv.old' 2 (by kernel_rfl)
 obtain ⟨u, hu⟩ : ∃ u : Nat → Value, ∀ t, u t = a'.eval (.tmp t) := ⟨_, fun _ => rfl⟩
 rw [qbh_ a' 13 u hinv.tsize hinv.defers hu]
 rw [← hu] at e2
 clear hu hinv hall
 show Exit.then _ _ _ (⟨#[u 0, u 1, u 2, u 3, u 4, u 5, u 6, u 7, u 8, u 9, u 10, u 11, u 12], []⟩ : Act) v1
 rw [e2]
 clear e2
 go_wp2_with fail
 refine bodyPost_ret (qrr_ Tryz.results33 _ _ rfl hE z1) rfl ⟨rfl, hC.1⟩
end Go.Proofs.YtkclahiiijfllaaGreatDoor.An
namespace Go.Proofs.YtkclahiiijfllaaGreatDoor.An
open Go.RowKit Mem Sc
open Ar (Ent Ru entZ)
theorem Sup.clip {w : World} {lo : Nat} {P : World → Prop} (h : Sup (fun i => lo ≤ i) P w) : Sup (fun i => lo ≤ i ∧ i < w.heap.size) P w := fun w' k => h w' (k.mono fun _ hi hl => fun h => hi ⟨h, hl⟩)
theorem qry_ {w : World} {I : Nat → Prop} {b : Nat} {p : NN.Pr} {t : Tl} {gs : List Gt} {cs : List Ck} {room : Nat} {v : Value} {mb : Nat} {L : List Bk} (h : Ara w I b p t gs cs room v mb L) (x : Bk) (he : x.e.ok) (hs : x.s.ok) (J : Nat → Prop) (hJ : Sup J (fun w => SpIs w 0 x.s x.q) w) (hJl : ∀ i, J i → i < w.heap.size) (hJb : ∀ i, J i → ¬ (i = b ∨ i = mb ∨ v.ownBlock = some i)) (hn : L.length ≤ 900) (hf : (L.map (·.e.id)).findIdx? (· == x.e.id) = none) :
  Calls Tryz.prog 32 #[.pointer (some ⟨b, 0, none⟩), .agg (enA x.e), .agg (spA x.s)] w fun r w' => ∃ v', r = .returned (.int .i64 (L.length : Nat)) ∧ Ara w' (fun i => I i ∨ J i) b p t gs cs room v' mb (L ++ [x]) ∧ Kp (fun i => i = b ∨ i = mb ∨ v.ownBlock = some i) w w' ∧ (v'.ownBlock = v.ownBlock ∨ ∃ g, v'.ownBlock = some g ∧ w.heap.size ≤ g) := by
 obtain ⟨sa, c, rfl⟩ := h.slice
 refine (store_w b p h.pok room sa L.length c mb (rowC L) x.e he x.s hs hn w h.has h.row (fun k hk => h.b_ne_v hk) h.b_ne_mb (fun _ v3 => MapIs v3 mb (L.map (·.e.id) ++ [x.e.id])) ?_ (fun k hk => h.mb_ne_v hk) h.map.lt).mono ?_
 ·refine Lib.hid fun v2 hv2 => ?_
  obtain ⟨w', h1, h2, h3⟩ := (h.map.on hv2).put he.2 hf (by rw [List.length_map]; omega) L.length (by rw [List.length_map])
  exact ⟨w', h1, h2, h3⟩
 ·rintro r w' ⟨v', v2, rfl, hA, hR, hl, hK, hM⟩
  have hI : ∀ i, I i → ¬ (i = b ∨ i = mb ∨ (Value.slice sa L.length c).ownBlock = some i) := fun i hi e => by
   rcases e with rfl | rfl | e
   ·exact h.nb hi
   ·exact h.nm hi
   ·exact h.nv _ e hi
  refine ⟨v', rfl, ?_, hK, hl⟩
  refine { has := hA, pok := h.pok, one := h.one, tt := h.tt, tok := h.tok, gn := h.gn, cn := h.cn, row := ?_, map := ?_, gates := ?_, checks := ?_, spots := ?_, nb := ?_, nm := ?_, nv := ?_, lt := ?_, good := ?_ }
  ·rw [qzz_, List.length_append]; exact hR
  ·rw [List.map_append]; exact hM
  ·exact (h.gates.on hK hI).wide fun i hi => .inl hi
  ·exact (h.checks.on hK hI).wide fun i hi => .inl hi
  ·intro y hy
   rcases List.mem_append.1 hy with hy | hy
   ·exact ((h.spots y hy).on hK hI).wide fun i hi => .inl hi
   ·obtain rfl : y = x := by simpa using hy
    exact (hJ.on hK hJb).wide fun i hi => .inr hi
  ·exact fun e => e.elim h.nb fun e => hJb b e (.inl rfl)
  ·exact fun e => e.elim h.nm fun e => hJb mb e (.inr (.inl rfl))
  ·intro k hk e
   rcases hl with hl | ⟨g, hl, hg⟩
   ·exact e.elim (h.nv k (hl.symm.trans hk)) fun e => hJb k e (.inr (.inr (hl.symm.trans hk)))
   ·rw [hl] at hk
    have hkg : g = k := Option.some.inj hk
    have : k < w.heap.size := e.elim (h.lt k) (hJl k)
    omega
  ·exact fun i hi => Nat.lt_of_lt_of_le (hi.elim (h.lt i) (hJl i)) hK.size
  ·intro y hy
   rcases List.mem_append.1 hy with hy | hy
   ·exact h.good y hy
   ·obtain rfl : y = x := by simpa using hy
    exact ⟨he, hs⟩
theorem Ara.made {w : World} {I : Nat → Prop} {b : Nat} {p : NN.Pr} {t : Tl} {gs : List Gt} {cs : List Ck} {room mb : Nat} (hA : Has w b (arA p room (.slice none 0 0) mb) 85) (pok : p.ok) (one : p.one) (tt : p.tl = t.C) (tok : t.ok) (gn : t.gn = gs.length) (cn : t.cn = cs.length) (hM : MapIs w mb []) (hG : Sup I (fun w => GatesAt w t.ga gs) w) (hC : Sup I (fun w => ChecksAt w t.ca cs) w) (nb : ¬ I b) (nm : ¬ I mb) (hl : ∀ i, I i → i < w.heap.size) : Ara w I b p t gs cs room (.slice none 0 0) mb [] :=
 { has := hA, pok := pok, one := one, tt := tt, tok := tok, gn := gn, cn := cn, row := World.ownsRow_nil _ _ _ _, map := hM, gates := hG, checks := hC, spots := fun x hx => (by cases hx), nb := nb, nm := nm, nv := fun k hk => (by cases hk), lt := hl, good := fun x hx => (by cases hx) }
end Go.Proofs.YtkclahiiijfllaaGreatDoor.An
namespace Go.Proofs.YtkclahiiijfllaaGreatDoor.An
open Go.RowKit Mem Sc NN.Rg2
open Ar (Ent Ru entZ)
theorem qaak_ {w : World} {ops : Array Oper} {rest : List Oper} {o : Oper} {a : Act} {Q : Exit → Act → World → Prop} (hgd : o.guard = none) (x0 x1 x3 : Operand) (ho : o.op = .build 85 #[(0, x0), (1, x1), (3, x3)]) (p : NN.Pr) (hp : p.ok) (room mb : Nat) (h0 : a.eval x0 = .agg (NN.prA p)) (h1 : a.eval x1 = .int .i64 (room : Int)) (h3 : a.eval x3 = .map (some mb))
  (hk : wpList Tryz.prog ops Q rest (a.put o.dst (.agg (arA p room (.slice none 0 0) mb))) w) : wpList Tryz.prog ops Q (o :: rest) a w :=
 wpList_plain hgd fun _ hK => by
  unfold Oper.wp execOp
  simp only [ho, Sem.run_bind]
  rw [show (#[(0, x0), (1, x1), (3, x3)] : Array (Nat × Operand)).map (fun (i, x) => (i, a.eval x)) = #[(0, .agg (NN.prA p)), (1, .int .i64 (room : Int)), (3, .map (some mb))] by simp [h0, h1, h3], run_build w 85 _ _ (qnm_ p hp room mb)]
  exact hK _ _ hk
theorem qcj_ {P : Program} {ops : Array Oper} {o : Oper} {a : Act} {w : World} {Q : Exit → Act → World → Prop} {C : World → Prop} {S : World → World → Prop} {R : Value → World → Prop} {J : Act → World → Prop} {f : FuncId} {args : Array Value} (hn : Region.wanted o (yielded ops a.tmps) = true) (h : (execOp a.eval o).run P w = .ok (.enter f args) w) (hcall : Calls P f args w fun e w' => ∃ v, e = .returned v ∧ C w' ∧ S w w' ∧ R v w' ∧ J (a.put o.dst v) w') :
  if Region.wanted o (yielded ops a.tmps) = true then o.wp P a w (fun a' w' => C w' ∧ S w w' ∧ ∃ v, a' = a.put o.dst v ∧ R v w' ∧ J a' w') Q else R undef w ∧ J (a.put o.dst undef) w := by
 rw [if_pos hn]
 unfold Oper.wp
 rw [h]
 refine Calls.mono hcall fun e w' he => ?_
 obtain ⟨v, rfl, h1, h2, h3, h4⟩ := he
 exact ⟨h1, h2, v, rfl, h3, h4⟩
def NwR (v1 : World) (bA : Nat) (p : NN.Pr) (e : En) (q : Ps) : Nat → Value → World → Prop
 | 0, u, _ => u = .pointer (some ⟨bA, 0, none⟩)
 | 1, u, _ => u = .agg (NN.prA p)
 | 2, u, _ => u = .agg (enA e)
 | 3, u, _ => u = .agg (NN.prA p)
 | 4, u, w => ∃ s : Sp, u = .agg (spA s) ∧ s.ok ∧ Sup (fun i => v1.heap.size ≤ i) (fun w => SpIs w 0 s q) w
 | _, _, _ => bA = bA
theorem qvg_ {v1 : World} {bA : Nat} {p : NN.Pr} {e : En} {q : Ps} {G : Nat → Prop} (hG : ∀ i, G i → i < v1.heap.size) : ∀ (i : Nat) (u : Value) (w w' : World), Kp G w w' → NwR v1 bA p e q i u w → NwR v1 bA p e q i u w'
 | 0, _, _, _, _, h => h
 | 1, _, _, _, _, h => h
 | 2, _, _, _, _, h => h
 | 3, _, _, _, _, h => h
 | 4, _, _, _, hk, ⟨s, h1, h2, h3⟩ => ⟨s, h1, h2, h3.on hk fun i hi hg => absurd (hG i hg) (by omega)⟩
 | _ + 5, _, _, _, _, h => h
theorem new_w (p : NN.Pr) (hp : p.ok) (t : Tl) (room m1 : Int) (R : Nat) (hm1 : m1 = max room 1) (hR : (R : Int) = min m1 512) (gs : List Gt) (cs : List Ck) (e : En) (he : e.ok) (q : Ps) (q32 : q.prev.length = 32) (w : World)
  (KG : Hid (∀ w', Below w.heap.size w w' → Calls Tryz.prog 30 #[.agg (NN.prA p)] w' fun e w'' => e = .returned (.bool true) ∧ Below w'.heap.size w' w''))
  (KC : Hid (∀ w', Below w.heap.size w w' → Calls Tryz.prog 31 #[.agg (NN.prA p)] w' fun e w'' => ∃ (p' : NN.Pr) (t' : Tl), e = .returned (.agg (NN.prA p')) ∧ (p'.ok ∧ p'.one ∧ p'.tl = t'.C ∧ t'.ok ∧ t'.gn = gs.length ∧ t'.cn = cs.length ∧ p'.lim = p.lim ∧ p'.ivl = p.ivl ∧ p'.spc = p.spc ∧ p'.fut = p.fut ∧ p'.easy = p.easy ∧ t'.g = t.g) ∧ Sup (fun i => w'.heap.size ≤ i) (fun w => GatesAt w t'.ga gs) w'' ∧ Sup (fun i => w'.heap.size ≤ i) (fun w => ChecksAt w t'.ca cs) w'' ∧ Below w'.heap.size w' w''))
  (KE : Hid (∀ w', Below w.heap.size w w' → Calls Tryz.prog 33 #[.agg (NN.prA p)] w' fun r w'' => r = .returned (.agg (enA e)) ∧ Below w'.heap.size w' w''))
  (KB : Hid (∀ w', Below w.heap.size w w' → Calls Tryz.prog 23 #[.agg (NN.prA p)] w' fun r w'' => ∃ s, r = .returned (.agg (spA s)) ∧ (spA s).size = 38 ∧ SpIs w'' w'.heap.size s q ∧ Below w'.heap.size w' w'')) :
  Calls Tryz.prog 10 #[.agg (NN.prA p), .int .i64 room] w fun r w' => ∃ b I p' t' v mb x, r = .returned (.tuple #[.pointer (some ⟨b, 0, none⟩), .int .i64 0]) ∧ Ara w' I b p' t' gs cs R v mb [x] ∧ x.e = e ∧ x.q = q ∧ (p'.lim = p.lim ∧ p'.ivl = p.ivl ∧ p'.spc = p.spc ∧ p'.fut = p.fut ∧ p'.easy = p.easy ∧ t'.g = t.g) ∧ (∀ i, Mine I b v mb i → w.heap.size ≤ i) ∧ Below w.heap.size w w' := by
 have hz := NN.qal_ hp
 go_enter Tryz.func10, Tryz.ntmps10
 go_upto_region 1 with fail
 generalize hw0 : World.alloc _ _ = v0
 have hB : Below w.heap.size w v0 := bl_ hw0
 have hP : NN.PrAt v0 w.heap.size p := by rw [← hw0]; exact NN.Has.new _ _
 have hs0 : w.heap.size + 1 ≤ v0.heap.size := by rw [← hw0]; simp
 clear hw0
 obtain ⟨bP, hbP⟩ : ∃ x, x = w.heap.size := ⟨_, rfl⟩
 rw [← hbP] at hP ⊢
 have HBP : Hid (bP = w.heap.size) := Lib.hid hbP
 clear hbP
 go_wp2_with (first | fail | (with_reducible refine NN.qh_ rfl _ rfl _ rfl hP hz ?_))
 refine (KG.out _ hB).mono ?_
 rintro r v1 ⟨rfl, hb⟩
 replace hP := hP.on hb
 replace hB := hB.trans (hb.mono hB.size)
 have hs1 : w.heap.size + 1 ≤ v1.heap.size := Nat.le_trans hs0 hb.size
 clear hb hs0
 go_wp2_with (first | fail | (with_reducible refine NN.qh_ rfl _ rfl _ rfl hP hz ?_))
 refine (KC.out _ hB).mono ?_
 rintro r v2 ⟨p', t', rfl, ⟨p1, p2, p3, p4, p5, p6, a1, a2, a3, a4, a5, a6⟩, hG, hC, hb⟩
 replace hP := hP.on hb
 replace hB := hB.trans (hb.mono hB.size)
 have hs2 : w.heap.size + 1 ≤ v2.heap.size := Nat.le_trans hs1 hb.size
 have HS12 : Hid (v1.heap.size ≤ v2.heap.size) := Lib.hid hb.size
 have HS1 := Lib.hid hs1
 clear hb hs1
 have hmax := NN.max_is (P := Tryz.prog) room 1 m1 hm1
 have hmin := NN.min_is (P := Tryz.prog) m1 512 (R : Int) hR
 clear hm1 hR
 have hmk : ∀ w : World, (Instr.makeMap 82 none).run Tryz.prog w = .ok (.map (some w.heap.size)) (w.alloc (.map #[] 0)) := fun _ => by kernel_rfl
 go_upto_region 4 with (with_reducible first | refine NN.qh_ rfl _ rfl _ rfl hP hz ?_ | refine qaak_ rfl _ _ _ rfl p' p1 R v2.heap.size rfl rfl rfl ?_)
 have hMz : (v2.alloc (.map #[] 0)).heap.size = v2.heap.size + 1 := by simp
 have hA3 : Has ((v2.alloc (.map #[] 0)).alloc (.cells (arA p' R (.slice none 0 0) v2.heap.size) 85)) (v2.heap.size + 1) (arA p' R (.slice none 0 0) v2.heap.size) 85 := by rw [← hMz]; exact Has.new _ _
 have hb3 : Below v2.heap.size v2 ((v2.alloc (.map #[] 0)).alloc (.cells (arA p' R (.slice none 0 0) v2.heap.size) 85)) := ((Below.refl _ _).alloc (Nat.le_refl _) _).alloc (by simp) _
 have hM3 : MapIs ((v2.alloc (.map #[] 0)).alloc (.cells (arA p' R (.slice none 0 0) v2.heap.size) 85)) v2.heap.size [] := (MapIs.made v2).on (heap_alloc_old _ _ (by simp))
 obtain ⟨mb, hmb⟩ : ∃ x, x = v2.heap.size := ⟨_, rfl⟩
 obtain ⟨bA, hbA⟩ : ∃ x, x = v2.heap.size + 1 := ⟨_, rfl⟩
 rw [← hbA] at hA3 ⊢
 rw [← hmb] at hA3 hM3 hb3 ⊢
 have hs3 : ((v2.alloc (.map #[] 0)).alloc (.cells (arA p' R (.slice none 0 0) mb) 85)).heap.size = v2.heap.size + 2 := by simp
 generalize hv3 : World.alloc (World.alloc v2 _) _ = v3 at *
 have hA : Ara v3 (fun i => v1.heap.size ≤ i ∧ i < v2.heap.size) bA p' t' gs cs R (.slice none 0 0) mb [] := Ara.made hA3 p1 p2 p3 p4 p5 p6 hM3 (hG.clip.on (G := fun _ => False) (Kp.of (hmb ▸ hb3)) (fun _ _ h => h)) (hC.clip.on (G := fun _ => False) (Kp.of (hmb ▸ hb3)) (fun _ _ h => h)) (fun h => by omega) (fun h => by omega) (fun i hi => by rw [hs3]; omega)
 have hP3 : NN.PrAt v3 bP p := hP.on (hmb ▸ hb3)
 have hB3 : Below w.heap.size w v3 := hB.trans (hb3.mono (by rw [hmb]; exact hB.size))
 have HF : Hid (∀ i, (i = bA ∨ i = mb) → i < v3.heap.size) := Lib.hid fun i hi => by rw [hs3]; omega
 have HL : Hid (w.heap.size ≤ v1.heap.size ∧ w.heap.size ≤ mb ∧ w.heap.size ≤ bA ∧ w.heap.size ≤ v3.heap.size ∧ bP ≠ bA ∧ bP ≠ mb) := Lib.hid (by rw [hs3]; have := HS1.out; have := HBP.out; omega)
 clear hA3 hM3 hb3 hs3 hMz hmk hmax hmin hG hC hP hB hmb hbA hv3
 refine ql_ (by kernel_rfl) (fun w' => (Below w.heap.size w w' ∧ v3.heap.size ≤ w'.heap.size) ∧ NN.PrAt w' bP p) (fun i v' w' => NwR v3 bA p e q i v' w') (fun l _ w' => Ph 5 (fun w' => Ara w' (fun i => v1.heap.size ≤ i ∧ i < v2.heap.size) bA p' t' gs cs R (.slice none 0 0) mb []) (fun w' => ∃ I v x, Ara w' I bA p' t' gs cs R v mb [x] ∧ x.e = e ∧ x.q = q ∧ ∀ i, Mine I bA v mb i → w.heap.size ≤ i) l w') (fun w w' => Kp (fun i => i = bA ∨ i = mb) w w') (fun w' _ => Kp.refl _ w') (fun i v w w' _ hs h => qvg_ HF.out i v w w' hs h) (by kernel_rfl) ⟨⟨hB3.trans ((Below.refl _ _).drew.mono hB3.size), (Below.refl v3.heap.size v3).drew.size⟩, NN.Has.drew hP3⟩ ?_ ?_ ?_
 ·exact fun l hl => Ph.zero hl (hA.below (Below.refl _ _).drew)
 ·intro i o listed a wx ho' hnl hdep hinv
  have hC := hinv.c
  have hI := hinv.i
  have hi : i < 6 := (Array.getElem?_eq_some_iff.1 ho').1
  obtain rfl | rfl | rfl | rfl | rfl | rfl : i = 0 ∨ i = 1 ∨ i = 2 ∨ i = 3 ∨ i = 4 ∨ i = 5 := by omega
  all_goals obtain rfl := Option.some.inj ho'
  ·have hsz : 0 < listed.size := by rw [hinv.size]; decide
   exact qd_ (C := (fun w' => (Below w.heap.size w w' ∧ v3.heap.size ≤ w'.heap.size) ∧ NN.PrAt w' bP p)) (S := (fun w w' => Kp (fun i => i = bA ∨ i = mb) w w')) (R := fun v' w' => NwR v3 bA p e q 0 v' w') (J := fun _ w' => Ph 5 (fun w' => Ara w' (fun i => v1.heap.size ≤ i ∧ i < v2.heap.size) bA p' t' gs cs R (.slice none 0 0) mb []) (fun w' => ∃ I v x, Ara w' I bA p' t' gs cs R v mb [x] ∧ x.e = e ∧ x.q = q ∧ ∀ i, Mine I bA v mb i → w.heap.size ≤ i) (listed.setIfInBounds 0 true) w') (fun w' _ => Kp.refl _ w') hC (qa_ rfl) (NN.qbd_ rfl) (hinv.old' 6 (by kernel_rfl)) (hI.keep hsz (by decide))
  ·have hsz : 1 < listed.size := by rw [hinv.size]; decide
   exact qd_ (C := (fun w' => (Below w.heap.size w w' ∧ v3.heap.size ≤ w'.heap.size) ∧ NN.PrAt w' bP p)) (S := (fun w w' => Kp (fun i => i = bA ∨ i = mb) w w')) (R := fun v' w' => NwR v3 bA p e q 1 v' w') (J := fun _ w' => Ph 5 (fun w' => Ara w' (fun i => v1.heap.size ≤ i ∧ i < v2.heap.size) bA p' t' gs cs R (.slice none 0 0) mb []) (fun w' => ∃ I v x, Ara w' I bA p' t' gs cs R v mb [x] ∧ x.e = e ∧ x.q = q ∧ ∀ i, Mine I bA v mb i → w.heap.size ≤ i) (listed.setIfInBounds 1 true) w') (fun w' _ => Kp.refl _ w') hC (qa_ rfl) (NN.qdl_ rfl (hinv.old' 2 (by kernel_rfl)) hC.2 hz) rfl (hI.keep hsz (by decide))
  ·have hsz : 2 < listed.size := by rw [hinv.size]; decide
   have hnK : (listed.setIfInBounds 2 true).getD 5 false = false := hinv.aheadT 5 (by kernel_rfl) hnl (by decide) (by decide)
   have hpre := hI.pre hnK hsz (by decide)
   exact qam_ (C := (fun w' => (Below w.heap.size w w' ∧ v3.heap.size ≤ w'.heap.size) ∧ NN.PrAt w' bP p)) (S := (fun w w' => Kp (fun i => i = bA ∨ i = mb) w w')) (R := fun v' w' => NwR v3 bA p e q 2 v' w') (J := fun _ w' => Ph 5 (fun w' => Ara w' (fun i => v1.heap.size ≤ i ∧ i < v2.heap.size) bA p' t' gs cs R (.slice none 0 0) mb []) (fun w' => ∃ I v x, Ara w' I bA p' t' gs cs R v mb [x] ∧ x.e = e ∧ x.q = q ∧ ∀ i, Mine I bA v mb i → w.heap.size ≤ i) (listed.setIfInBounds 2 true) w') (qa_ rfl) (f := 33) (args := #[a.eval (.tmp 19)]) (by kernel_rfl) (by rw [show a.eval (.tmp 19) = _ from (hinv.got 1 _ 19 rfl (hdep ⟨1, .data⟩ (by simp) rfl) rfl)];  exact KE.out wx hC.1.1) (fun w' hb => ⟨⟨⟨hC.1.1.trans (hb.mono hC.1.1.size), Nat.le_trans hC.1.2 hb.size⟩, NN.PrAt.on hC.2 hb⟩, Kp.of hb, rfl, Ph.made hnK (hpre.below hb)⟩)
  ·have hsz : 3 < listed.size := by rw [hinv.size]; decide
   exact qd_ (C := (fun w' => (Below w.heap.size w w' ∧ v3.heap.size ≤ w'.heap.size) ∧ NN.PrAt w' bP p)) (S := (fun w w' => Kp (fun i => i = bA ∨ i = mb) w w')) (R := fun v' w' => NwR v3 bA p e q 3 v' w') (J := fun _ w' => Ph 5 (fun w' => Ara w' (fun i => v1.heap.size ≤ i ∧ i < v2.heap.size) bA p' t' gs cs R (.slice none 0 0) mb []) (fun w' => ∃ I v x, Ara w' I bA p' t' gs cs R v mb [x] ∧ x.e = e ∧ x.q = q ∧ ∀ i, Mine I bA v mb i → w.heap.size ≤ i) (listed.setIfInBounds 3 true) w') (fun w' _ => Kp.refl _ w') hC (qa_ rfl) (NN.qdl_ rfl (hinv.old' 2 (by kernel_rfl)) hC.2 hz) rfl (hI.keep hsz (by decide))
  ·have hsz : 4 < listed.size := by rw [hinv.size]; decide
   have hnK : (listed.setIfInBounds 4 true).getD 5 false = false := hinv.aheadT 5 (by kernel_rfl) hnl (by decide) (by decide)
   have hpre := hI.pre hnK hsz (by decide)
   exact qds_ (V := fun v w' => ∃ s, v = .agg (spA s) ∧ (spA s).size = 38 ∧ SpIs w' wx.heap.size s q) (C := (fun w' => (Below w.heap.size w w' ∧ v3.heap.size ≤ w'.heap.size) ∧ NN.PrAt w' bP p)) (S := (fun w w' => Kp (fun i => i = bA ∨ i = mb) w w')) (R := fun v' w' => NwR v3 bA p e q 4 v' w') (J := fun _ w' => Ph 5 (fun w' => Ara w' (fun i => v1.heap.size ≤ i ∧ i < v2.heap.size) bA p' t' gs cs R (.slice none 0 0) mb []) (fun w' => ∃ I v x, Ara w' I bA p' t' gs cs R v mb [x] ∧ x.e = e ∧ x.q = q ∧ ∀ i, Mine I bA v mb i → w.heap.size ≤ i) (listed.setIfInBounds 4 true) w') (qa_ rfl) (f := 23) (args := #[a.eval (.tmp 21)]) (by kernel_rfl) (by
    rw [show a.eval (.tmp 21) = _ from (hinv.got 3 _ 21 rfl (hdep ⟨3, .data⟩ (by simp) rfl) rfl)]
    refine (KB.out wx hC.1.1).mono ?_
    rintro r w' ⟨s, rfl, h1, h2, h3⟩
    exact ⟨_, rfl, ⟨s, rfl, h1, h2⟩, h3⟩) (fun v w' hv hb => ⟨⟨⟨hC.1.1.trans (hb.mono hC.1.1.size), Nat.le_trans hC.1.2 hb.size⟩, NN.PrAt.on hC.2 hb⟩, Kp.of hb, (by
     obtain ⟨s, rfl, h1, h2⟩ := hv
     exact ⟨s, rfl, (by unfold Sp.ok; rw [h2.2.1]; exact q32), qro_ h2 fun i hi _ => Nat.le_trans hC.1.2 hi⟩), Ph.made hnK (hpre.below hb)⟩)
  ·have hsz : 5 < listed.size := by rw [hinv.size]; decide
   have hpre := hI.1 hnl
   obtain ⟨s, e22, so, hJ⟩ := (hinv.got 4 _ 22 rfl (hdep ⟨4, .data⟩ (by simp) rfl) rfl)
   exact qcj_ (C := (fun w' => (Below w.heap.size w w' ∧ v3.heap.size ≤ w'.heap.size) ∧ NN.PrAt w' bP p)) (S := (fun w w' => Kp (fun i => i = bA ∨ i = mb) w w')) (R := fun v' w' => NwR v3 bA p e q 5 v' w') (J := fun _ w' => Ph 5 (fun w' => Ara w' (fun i => v1.heap.size ≤ i ∧ i < v2.heap.size) bA p' t' gs cs R (.slice none 0 0) mb []) (fun w' => ∃ I v x, Ara w' I bA p' t' gs cs R v mb [x] ∧ x.e = e ∧ x.q = q ∧ ∀ i, Mine I bA v mb i → w.heap.size ≤ i) (listed.setIfInBounds 5 true) w') (qa_ rfl) (f := 32) (args := #[a.eval (.tmp 18), a.eval (.tmp 20), a.eval (.tmp 22)]) (by kernel_rfl) (by
    rw [show a.eval (.tmp 18) = _ from (hinv.got 0 _ 18 rfl (hdep ⟨0, .data⟩ (by simp) rfl) rfl), show a.eval (.tmp 20) = _ from (hinv.got 2 _ 20 rfl (hdep ⟨2, .data⟩ (by simp) rfl) rfl), e22]
    have hJl := HF.out
    refine (qry_ hpre ⟨e, s, q⟩ he so (fun i => v3.heap.size ≤ i ∧ i < wx.heap.size) hJ.clip (fun i hi => hi.2) (fun i hi h => ?_) (by decide) rfl).mono ?_
    ·rcases h with h | h | h
     ·have := hJl i (.inl h); omega
     ·have := hJl i (.inr h); omega
     ·cases h
    ·rintro r w' ⟨v', rfl, hA', hK, hl⟩
     have hKF : Kp (fun i => i = bA ∨ i = mb) wx w' := hK.mono fun i hi _ => hi.elim .inl (fun h => h.elim .inr (fun h => by cases h))
     obtain ⟨l1, l2, l3, l4, l5, l6⟩ := HL.out
     refine ⟨_, rfl, ⟨⟨hC.1.1.trans (hKF.below (fun i hi => by rcases hi with rfl | rfl <;> assumption) hC.1.1.size), Nat.le_trans hC.1.2 hKF.size⟩, hKF.nhas hC.2 (fun h => h.elim l5 l6)⟩, hKF, rfl, Ph.last hsz ⟨_, v', _, hA', rfl, rfl, fun i hi => ?_⟩⟩
     rcases hi with (hi | hi) | rfl | rfl | hi
     ·exact Nat.le_trans l1 hi.1
     ·exact Nat.le_trans l4 hi.1
     ·exact l3
     ·exact l2
     ·rcases hl with hl | ⟨g, hl, hg⟩
      ·rw [hl] at hi; cases hi
      ·rw [hl] at hi
       have hig : g = i := Option.some.inj hi
       have := hC.1.2
       omega)
 intro listed a' v4 hall hinv
 have hC := hinv.c.1
 obtain ⟨I, v, x, hE, x1, x2, hm⟩ := hinv.i.2 (hall 5 (by decide))
 have e6 : a'.eval (.tmp 6) = .pointer (some ⟨bA, 0, none⟩) := hinv.old' 6 (by kernel_rfl)
 obtain ⟨u, hu⟩ : ∃ u : Nat → Value, ∀ t, u t = a'.eval (.tmp t) := ⟨_, fun _ => rfl⟩
 rw [qbh_ a' 25 u hinv.tsize hinv.defers hu]
 rw [← hu] at e6
 clear hu hinv hall
 show Exit.then _ _ _ (⟨#[u 0, u 1, u 2, u 3, u 4, u 5, u 6, u 7, u 8, u 9, u 10, u 11, u 12, u 13, u 14, u 15, u 16, u 17, u 18, u 19, u 20, u 21, u 22, u 23, u 24], []⟩ : Act) v4
 rw [e6]
 clear e6
 go_wp2_with fail
 go_ret2
 exact ⟨bA, I, p', t', v, mb, x, rfl, hE, x1, x2, ⟨a1, a2, a3, a4, a5, a6⟩, hm, hC.1⟩
end Go.Proofs.YtkclahiiijfllaaGreatDoor.An
namespace Go.Proofs.YtkclahiiijfllaaGreatDoor.An
open Go.RowKit Mem Sc
open Ar (Ent Ru entZ)
def clampR (room : Int) : Nat := (min (max room 1) 512).toNat
theorem qvh_ (room : Int) : ((clampR room : Nat) : Int) = min (max room 1) 512 := by unfold clampR; omega
theorem new_at (p : NN.Pr) (hp : p.ok) (h1 : p.one) (t : Tl) (tt : p.tl = t.C) (ht : t.ok) (gs : List Gt) (cs : List Ck) (hgn : t.gn = gs.length) (hcn : t.cn = cs.length) (hgl : t.gn ≤ 1000) (hcl : t.cn ≤ 1000) (room : Int) (hgood : ruleP p t.g gs cs = true) (w : World) (hT : Tab w) (hG : GatesAt w t.ga gs) (hC : ChecksAt w t.ca cs) :
  Calls Tryz.prog 10 #[.agg (NN.prA p), .int .i64 room] w fun r w' => ∃ b F, r = .returned (.tuple #[.pointer (some ⟨b, 0, none⟩), .int .i64 0]) ∧ ArS w' F b ⟨p, t.g, gs, cs, clampR room⟩ [entZ] ∧ (∀ i, F i → w.heap.size ≤ i) ∧ Below w.heap.size w w' := by
 have e1 : enOf ⟨p, t.g, gs, cs, clampR room⟩ entZ = ⟨t.g, t.g.id, -1, 0, NN.ofBits t.g.bits⟩ := rfl
 refine (new_w p hp t room (max room 1) (clampR room) rfl (qvh_ room) gs cs (enOf ⟨p, t.g, gs, cs, clampR room⟩ entZ) ⟨ht.2, qz_ _⟩ (bgn p t.g) (qz_ _) w ?_ ?_ ?_ ?_).mono ?_
 ·refine Lib.hid fun w' hb => ?_
  have := qur_ p hp t tt ht gs cs hgn hcn hgl hcl w' (hG.below hb) (hC.below hb)
  rwa [hgood] at this
 ·refine Lib.hid fun w' hb => (qve_ p hp h1 t tt ht gs cs hgn hcn hgl hcl w' (hG.below hb) (hC.below hb)).mono ?_
  rintro e w2 ⟨ga, gc, ca, cc, rfl, q1, q2, q3⟩
  refine ⟨moved p t ga gc ca cc, movedT t ga gc ca cc, rfl, ⟨qrv_ p t ht ga gc ca cc, ?_, rfl, ht, hgn, hcn, rfl, rfl, rfl, rfl, rfl, rfl⟩, q1, q2, q3⟩
  intro v hv
  have hv' : v ∈ (Value.slice ga t.gn gc :: Value.slice ca t.cn cc :: (t.nn ++ hdC t.g)) := hv
  simp only [List.mem_cons] at hv'
  rcases hv' with rfl | rfl | hv'
  ·rfl
  ·rfl
  ·exact h1 v (by rw [tt]; unfold Tl.C; simp only [List.mem_cons]; exact .inr (.inr hv'))
 ·refine Lib.hid fun w' hb => qvf_ p t tt ht _ ⟨ht.2, qz_ _⟩ rfl rfl rfl w' ?_ ?_
  ·exact Lib.hid fun w2 hb2 => id_at t.g ht.2 w2 (hT.below (hb.trans (hb2.mono hb.size)))
  ·exact Lib.hid fun w2 => NN.wbits t.g.bits w2
 ·exact Lib.hid fun w' hb => qzl_ p hp t tt ht w' (hT.below hb)
 ·rintro r w' ⟨b, I, p', t', v, mb, x, rfl, hA, x1, x2, ha, hm, hb⟩
  refine ⟨b, Mine I b v mb, rfl, ⟨fun i hi => hA.mine_lt hi, I, p', t', v, mb, [x], hA, ha, ?_, fun i hi => hi⟩, hm, hb⟩
  unfold Lk
  simp only [List.map_cons, List.map_nil, x1, x2]
  rfl
end Go.Proofs.YtkclahiiijfllaaGreatDoor.An
namespace Go.Proofs.YtkclahiiijfllaaGreatDoor.An
open Go.RowKit Mem Sc NN.Rg2
open Ar (Ent Ru entZ)
theorem add_bad (b : Nat) (h : Hd) (ho : h.ok) (now : Int) (w : World) (KG : Hid (∀ w', Below w.heap.size w w' → Calls Tryz.prog 34 #[.agg (hdA h)] w' fun e w'' => e = .returned (.bool false) ∧ Below w'.heap.size w' w'')) :
  Ca_ 11 #[.pointer (some ⟨b, 0, none⟩), .agg (hdA h), .int .i64 now] w (.tuple #[.int .i64 (-1), .int .i64 1, .int .i64 8]) := by
 have za := qq_ ho
 go_enter Tryz.func11, Tryz.ntmps11
 go_upto_region 1 with fail
 generalize hw0 : World.alloc _ _ = v0
 have hB : Below w.heap.size w v0 := bl_ hw0
 have hH : HdAt v0 w.heap.size h := by rw [← hw0]; exact Has.new _ _
 clear hw0
 obtain ⟨bH, hbH⟩ : ∃ x, x = w.heap.size := ⟨_, rfl⟩
 rw [← hbH] at hH ⊢
 have HBH : Hid (bH = w.heap.size) := Lib.hid hbH
 clear hbH
 go_wp2_with (first | fail | (with_reducible refine qab_ rfl _ rfl _ rfl hH za ?_))
 refine (KG.out _ hB).mono ?_
 rintro e v1 ⟨rfl, hb⟩
 replace hH := hH.on hb
 replace hB := hB.trans (hb.mono hB.size)
 clear hb
 go_wp2_with fail
 go_ret3
 exact ⟨rfl, hB⟩
theorem qvi_ (b : Nat) (h : Hd) (ho : h.ok) (now : Int) (w : World) (KG : Hid (∀ w', Below w.heap.size w w' → Calls Tryz.prog 34 #[.agg (hdA h)] w' fun e w'' => e = .returned (.bool true) ∧ Below w'.heap.size w' w'')) (id : List UInt8) (i32 : id.length = 32) (KI : Hid (∀ w', Below w.heap.size w w' → Calls Tryz.prog 35 #[.agg (hdA h)] w' fun e w'' => e = .returned (.agg (bytesV id)) ∧ Below w'.heap.size w' w'')) (i : Nat) (KF : Hid (∀ w', Below w.heap.size w w' → Calls Tryz.prog 15 #[.pointer (some ⟨b, 0, none⟩), .agg (bytesV id)] w' fun e w'' => e = .returned (.int .i64 (i : Int)) ∧ Below w'.heap.size w' w'')) :
  Ca_ 11 #[.pointer (some ⟨b, 0, none⟩), .agg (hdA h), .int .i64 now] w (.tuple #[.int .i64 (i : Int), .int .i64 0, .int .i64 0]) := by
 have za := qq_ ho
 go_enter Tryz.func11, Tryz.ntmps11
 go_upto_region 1 with fail
 generalize hw0 : World.alloc _ _ = v0
 have hB : Below w.heap.size w v0 := bl_ hw0
 have hH : HdAt v0 w.heap.size h := by rw [← hw0]; exact Has.new _ _
 clear hw0
 obtain ⟨bH, hbH⟩ : ∃ x, x = w.heap.size := ⟨_, rfl⟩
 rw [← hbH] at hH ⊢
 have HBH : Hid (bH = w.heap.size) := Lib.hid hbH
 clear hbH
 go_wp2_with (first | fail | (with_reducible refine qab_ rfl _ rfl _ rfl hH za ?_))
 refine (KG.out _ hB).mono ?_
 rintro e v1 ⟨rfl, hb⟩
 replace hH := hH.on hb
 replace hB := hB.trans (hb.mono hB.size)
 clear hb
 go_wp2_with (first | fail | (with_reducible refine qab_ rfl _ rfl _ rfl hH za ?_))
 refine (KI.out _ hB).mono ?_
 rintro e v2 ⟨rfl, hb⟩
 replace hH := hH.on hb
 replace hB := hB.trans (hb.mono hB.size)
 clear hb
 have s1 : (bytesV id).size = 32 := by rw [qr_]; exact i32
 have o1 := qy_ id
 have HW2 : Hid (w.heap.size ≤ v2.heap.size) := Lib.hid hB.size
 go_upto_region 6 with (with_reducible refine qcm_ rfl _ _ rfl _ (bytesV id) (bytesV id) rfl rfl rfl s1 o1 h0 (h0_new v2 _) rfl ?_)
 generalize hw4 : World.setRow _ _ _ = v3
 have hb2 : Below v2.heap.size v2 v3 := bw_ hw4
 have hI : Has v3 v2.heap.size (bytesV id) 28 := by rw [← hw4]; exact Has.row (h0_new v2 _) _
 replace hH := hH.on hb2
 replace hB := hB.trans (hb2.mono hB.size)
 clear hw4 hb2 o1
 obtain ⟨bI, hbI⟩ : ∃ b, b = v2.heap.size := ⟨_, rfl⟩
 rw [← hbI] at hI HW2 ⊢
 clear hbI
 go_wp2_with (first | fail | (with_reducible refine qha_ rfl _ rfl _ rfl _ hI s1 ?_))
 refine (KF.out _ hB).mono ?_
 rintro e v4 ⟨rfl, hb⟩
 replace hH := hH.on hb
 replace hI := qi_ hb hI (Has.lt hI)
 replace hB := hB.trans (hb.mono hB.size)
 clear hb
 go_wp2_with fail
 go_ret3
 exact ⟨rfl, hB⟩
theorem qaal_ (b : Nat) (h : Hd) (ho : h.ok) (now : Int) (w : World) (KG : Hid (∀ w', Below w.heap.size w w' → Calls Tryz.prog 34 #[.agg (hdA h)] w' fun e w'' => e = .returned (.bool true) ∧ Below w'.heap.size w' w'')) (id : List UInt8) (i32 : id.length = 32) (KI : Hid (∀ w', Below w.heap.size w w' → Calls Tryz.prog 35 #[.agg (hdA h)] w' fun e w'' => e = .returned (.agg (bytesV id)) ∧ Below w'.heap.size w' w'')) (KF : Hid (∀ w', Below w.heap.size w w' → Calls Tryz.prog 15 #[.pointer (some ⟨b, 0, none⟩), .agg (bytesV id)] w' fun e w'' => e = .returned (.int .i64 (-1)) ∧ Below w'.heap.size w' w'')) (KP : Hid (∀ w', Below w.heap.size w w' → Calls Tryz.prog 15 #[.pointer (some ⟨b, 0, none⟩), .agg (bytesV h.prev)] w' fun e w'' => e = .returned (.int .i64 (-1)) ∧ Below w'.heap.size w' w'')) :
  Ca_ 11 #[.pointer (some ⟨b, 0, none⟩), .agg (hdA h), .int .i64 now] w (.tuple #[.int .i64 (-1), .int .i64 2, .int .i64 5]) := by
 have za := qq_ ho
 go_enter Tryz.func11, Tryz.ntmps11
 go_upto_region 1 with fail
 generalize hw0 : World.alloc _ _ = v0
 have hB : Below w.heap.size w v0 := bl_ hw0
 have hH : HdAt v0 w.heap.size h := by rw [← hw0]; exact Has.new _ _
 clear hw0
 obtain ⟨bH, hbH⟩ : ∃ x, x = w.heap.size := ⟨_, rfl⟩
 rw [← hbH] at hH ⊢
 have HBH : Hid (bH = w.heap.size) := Lib.hid hbH
 clear hbH
 go_wp2_with (first | fail | (with_reducible refine qab_ rfl _ rfl _ rfl hH za ?_))
 refine (KG.out _ hB).mono ?_
 rintro e v1 ⟨rfl, hb⟩
 replace hH := hH.on hb
 replace hB := hB.trans (hb.mono hB.size)
 clear hb
 go_wp2_with (first | fail | (with_reducible refine qab_ rfl _ rfl _ rfl hH za ?_))
 refine (KI.out _ hB).mono ?_
 rintro e v2 ⟨rfl, hb⟩
 replace hH := hH.on hb
 replace hB := hB.trans (hb.mono hB.size)
 clear hb
 have s1 : (bytesV id).size = 32 := by rw [qr_]; exact i32
 have o1 := qy_ id
 have HW2 : Hid (w.heap.size ≤ v2.heap.size) := Lib.hid hB.size
 go_upto_region 6 with (with_reducible refine qcm_ rfl _ _ rfl _ (bytesV id) (bytesV id) rfl rfl rfl s1 o1 h0 (h0_new v2 _) rfl ?_)
 generalize hw4 : World.setRow _ _ _ = v3
 have hb2 : Below v2.heap.size v2 v3 := bw_ hw4
 have hI : Has v3 v2.heap.size (bytesV id) 28 := by rw [← hw4]; exact Has.row (h0_new v2 _) _
 replace hH := hH.on hb2
 replace hB := hB.trans (hb2.mono hB.size)
 clear hw4 hb2 o1
 obtain ⟨bI, hbI⟩ : ∃ b, b = v2.heap.size := ⟨_, rfl⟩
 rw [← hbI] at hI HW2 ⊢
 clear hbI
 go_wp2_with (first | fail | (with_reducible refine qha_ rfl _ rfl _ rfl _ hI s1 ?_))
 refine (KF.out _ hB).mono ?_
 rintro e v4 ⟨rfl, hb⟩
 replace hH := hH.on hb
 replace hI := qi_ hb hI (Has.lt hI)
 replace hB := hB.trans (hb.mono hB.size)
 clear hb
 have rp := hH.prev
 have s2 := qg_ ho.1
 go_wp2_with (first | fail | (with_reducible refine qn_ rfl _ rfl bH 1 rfl h.prev rp s2 ?_))
 refine (KP.out _ hB).mono ?_
 rintro e v5 ⟨rfl, hb⟩
 replace hH := hH.on hb
 replace hI := qi_ hb hI (Has.lt hI)
 replace hB := hB.trans (hb.mono hB.size)
 clear hb
 clear rp
 go_wp2_with fail
 go_ret3
 exact ⟨rfl, hB⟩
theorem qvj_ (b : Nat) (h : Hd) (ho : h.ok) (now : Int) (w : World) (KG : Hid (∀ w', Below w.heap.size w w' → Calls Tryz.prog 34 #[.agg (hdA h)] w' fun e w'' => e = .returned (.bool true) ∧ Below w'.heap.size w' w'')) (id : List UInt8) (i32 : id.length = 32) (KI : Hid (∀ w', Below w.heap.size w w' → Calls Tryz.prog 35 #[.agg (hdA h)] w' fun e w'' => e = .returned (.agg (bytesV id)) ∧ Below w'.heap.size w' w'')) (KF : Hid (∀ w', Below w.heap.size w w' → Calls Tryz.prog 15 #[.pointer (some ⟨b, 0, none⟩), .agg (bytesV id)] w' fun e w'' => e = .returned (.int .i64 (-1)) ∧ Below w'.heap.size w' w'')) {I : Nat → Prop} {p : NN.Pr} {t : Tl} {gs : List Gt} {cs : List Ck} {room g n c mb : Nat} {L : List Bk} (HA : Hid (∀ w', Below w.heap.size w w' → Ara w' I b p t gs cs room (.slice (some ⟨g, 0, none⟩) n c) mb L)) (x : Bk) (xe : x.e.ok) (xs : x.s.ok) (j : Nat) (hj : j < n) (HR : Hid (∀ w', Below w.heap.size w w' → w'.rangeAt g (j * 144) (bkC x.e x.s))) (KP : Hid (∀ w', Below w.heap.size w w' → Calls Tryz.prog 15 #[.pointer (some ⟨b, 0, none⟩), .agg (bytesV h.prev)] w' fun e w'' => e = .returned (.int .i64 (j : Int)) ∧ Below w'.heap.size w' w'')) (y : Int) (hy : (y == 0) = false) (KC : Hid (∀ w', Below w.heap.size w w' → Calls Tryz.prog 36 #[.agg (NN.prA p), .agg (spA x.s), .agg (hdA h), .int .i64 now] w' fun e w'' => e = .returned (.int .i64 y) ∧ Below w'.heap.size w' w'')) :
  Ca_ 11 #[.pointer (some ⟨b, 0, none⟩), .agg (hdA h), .int .i64 now] w (.tuple #[.int .i64 (-1), .int .i64 y, .int .i64 8]) := by
 have za := qq_ ho
 go_enter Tryz.func11, Tryz.ntmps11
 go_upto_region 1 with fail
 generalize hw0 : World.alloc _ _ = v0
 have hB : Below w.heap.size w v0 := bl_ hw0
 have hH : HdAt v0 w.heap.size h := by rw [← hw0]; exact Has.new _ _
 clear hw0
 obtain ⟨bH, hbH⟩ : ∃ x, x = w.heap.size := ⟨_, rfl⟩
 rw [← hbH] at hH ⊢
 have HBH : Hid (bH = w.heap.size) := Lib.hid hbH
 clear hbH
 go_wp2_with (first | fail | (with_reducible refine qab_ rfl _ rfl _ rfl hH za ?_))
 refine (KG.out _ hB).mono ?_
 rintro e v1 ⟨rfl, hb⟩
 replace hH := hH.on hb
 replace hB := hB.trans (hb.mono hB.size)
 clear hb
 go_wp2_with (first | fail | (with_reducible refine qab_ rfl _ rfl _ rfl hH za ?_))
 refine (KI.out _ hB).mono ?_
 rintro e v2 ⟨rfl, hb⟩
 replace hH := hH.on hb
 replace hB := hB.trans (hb.mono hB.size)
 clear hb
 have s1 : (bytesV id).size = 32 := by rw [qr_]; exact i32
 have o1 := qy_ id
 have HW2 : Hid (w.heap.size ≤ v2.heap.size) := Lib.hid hB.size
 go_upto_region 6 with (with_reducible refine qcm_ rfl _ _ rfl _ (bytesV id) (bytesV id) rfl rfl rfl s1 o1 h0 (h0_new v2 _) rfl ?_)
 generalize hw4 : World.setRow _ _ _ = v3
 have hb2 : Below v2.heap.size v2 v3 := bw_ hw4
 have hI : Has v3 v2.heap.size (bytesV id) 28 := by rw [← hw4]; exact Has.row (h0_new v2 _) _
 replace hH := hH.on hb2
 replace hB := hB.trans (hb2.mono hB.size)
 clear hw4 hb2 o1
 obtain ⟨bI, hbI⟩ : ∃ b, b = v2.heap.size := ⟨_, rfl⟩
 rw [← hbI] at hI HW2 ⊢
 clear hbI
 go_wp2_with (first | fail | (with_reducible refine qha_ rfl _ rfl _ rfl _ hI s1 ?_))
 refine (KF.out _ hB).mono ?_
 rintro e v4 ⟨rfl, hb⟩
 replace hH := hH.on hb
 replace hI := qi_ hb hI (Has.lt hI)
 replace hB := hB.trans (hb.mono hB.size)
 clear hb
 have rp := hH.prev
 have s2 := qg_ ho.1
 go_wp2_with (first | fail | (with_reducible refine qn_ rfl _ rfl bH 1 rfl h.prev rp s2 ?_))
 refine (KP.out _ hB).mono ?_
 rintro e v5 ⟨rfl, hb⟩
 replace hH := hH.on hb
 replace hI := qi_ hb hI (Has.lt hI)
 replace hB := hB.trans (hb.mono hB.size)
 clear hb
 clear rp
 have hA5 := HA.out _ hB
 have c84 := ar84 hA5.has hA5.pok
 have rs := qku_ xe (HR.out _ hB)
 have z3 := qbs_ xs
 have z4 := qah_ xs
 have z0 := qah_ spZ_ok
 have hp := hA5.pok
 clear hA5
 have HW5 : Hid (w.heap.size ≤ v5.heap.size) := Lib.hid hB.size
 go_upto_region 13 with (first
  | (with_reducible refine qez_ rfl _ rfl g (j * 144 + 106) rfl x.s rs z3 ?_)
  | (with_reducible refine qdm_ rfl _ _ rfl _ _ x.s rfl rfl rfl z4 (qeh_ v5) z0 ?_))
 generalize hw4 : World.setRow _ _ _ = v6
 have hb2 : Below v5.heap.size v5 v6 := bw_ hw4
 have hS : SpAt v6 v5.heap.size x.s := by rw [← hw4]; exact Has.row (qeh_ v5) _
 replace hH := hH.on hb2
 replace hI := qi_ hb2 hI (Has.lt hI)
 replace hB := hB.trans (hb2.mono hB.size)
 clear hw4 hb2 c84 rs
 obtain ⟨bS, hbS⟩ : ∃ b, b = v5.heap.size := ⟨_, rfl⟩
 rw [← hbS] at hS HW5 ⊢
 clear hbS
 simp only [Act.put]
 have hz := qbi_ hp
 have ra := qs_ (ar_pr (HA.out _ hB).has) (by rw [hz]; omega)
 have qS := hS.cls
 have qH := qs_ hH.range (qcd_ h)
 have sh := qj_ ho
 have HBr : ∀ d os, Below w.heap.size w (Sort.grow (redrawn v6 d) os) := fun d os => hB.trans ((below_regrown v6 d os).mono hB.size)
 refine wp_region_quiet_below (by kernel_rfl) (by kernel_rfl) ?_
 repeat (first
  | (go_big_quiet_want; (with_reducible refine qhx_ 32 _ rfl b 0 rfl (NN.prC p) _ Tryz.underlying32 rfl (NN.prinfo.trans (by rw [hz])) ra ?_); (simp only [Act.put, List.setIfInBounds_toArray, List.set_cons_zero, List.set_cons_succ]); go_big_quiet_on)
  | (go_big_quiet_want; (with_reducible refine qdn_ _ rfl bS rfl z4 qS ?_); (simp only [Act.put, List.setIfInBounds_toArray, List.set_cons_zero, List.set_cons_succ]); go_big_quiet_on)
  | (go_big_quiet_want; (with_reducible refine qt_ _ rfl bH 0 rfl h sh qH ?_); (simp only [Act.put, List.setIfInBounds_toArray, List.set_cons_zero, List.set_cons_succ]); go_big_quiet_on)
  | go_big_quiet_step ((go_at_call 36; exact Calls.regrown_of (KC.out _ (HBr _ _)))))
 refine wpQuiet_nil ?_
 intro v7 hw'
 have hb := qas_ v7 hw'
 replace hH := hH.on hb
 replace hI := qi_ hb hI (Has.lt hI)
 replace hS := hS.on hb
 replace hB := hB.trans (hb.mono hB.size)
 clear hw' hb ra qS qH sh HBr
 go_wp2_with fail
 go_ret3
 exact ⟨rfl, hB⟩
end Go.Proofs.YtkclahiiijfllaaGreatDoor.An
namespace Go.Proofs.YtkclahiiijfllaaGreatDoor.An
open Go.RowKit Mem Sc NN.Rg2
open Ar (Ent Ru entZ)
theorem bkfield0 (w : World) (g o : Nat) : (Instr.fieldAt 90 (.pointer (some ⟨g, o, none⟩)) 0).run Tryz.prog w = .ok (.pointer (some ⟨g, o, none⟩)) w := by kernel_rfl
theorem efield4 (w : World) (g o : Nat) : (Instr.fieldAt 44 (.pointer (some ⟨g, o, none⟩)) 4).run Tryz.prog w = .ok (.pointer (some ⟨g, o + 102, none⟩)) w := by kernel_rfl
theorem hfield4 (w : World) (g : Nat) : (Instr.fieldAt 30 (.pointer (some ⟨g, 0, none⟩)) 4).run Tryz.prog w = .ok (.pointer (some ⟨g, 66, none⟩)) w := by kernel_rfl
theorem qkz_ {ρ : Operand → Value} {o : Oper} {w : World} {x : Operand} {g off n : Nat} (ho : o.op = .load 26 x) (hx : ρ x = .pointer (some ⟨g, off, none⟩)) (hg : w.rangeAt g off (NN.numC n).toList) : (execOp ρ o).run Tryz.prog w = .ok (.value (.agg (NN.numC n))) w := by
 have := ex_mid (P := Tryz.prog) (ρ := ρ) (o := o) (w := w) 26 ho hx (cs := (NN.numC n).toList) Tryz.underlying26 rfl (NN.infoNum.trans (by simp [NN.qch_])) hg
 rwa [Array.toArray_toList] at this
def SumS (B : Nat) (w w' : World) : Prop := ∀ b cs, B ≤ b → NN.Has w b cs 26 → (cs.size ≠ 4 → NN.Has w' b cs 26) ∧ (cs.size = 4 → ∃ cs', NN.Has w' b cs' 26 ∧ cs'.size = 4)
theorem SumS.refl (B : Nat) (w : World) : SumS B w w := fun _ cs _ h => ⟨fun _ => h, fun h4 => ⟨cs, h, h4⟩⟩
theorem SumS.below {B : Nat} {w w' : World} (hb : Below w.heap.size w w') : SumS B w w' := fun _ cs _ h => ⟨fun _ => h.on hb, fun h4 => ⟨cs, h.on hb, h4⟩⟩
theorem SumS.row {B g z : Nat} {cs : Array Value} {w : World} (hg : NN.Has w g cs 26) (hs : cs.size = 4) : SumS B w (w.setRow g (NN.numC z)) := fun b cs' _ h => by
 by_cases e : b = g
 ·subst e
  have e2 : cs' = cs := by
   have h1 := NN.Has.out h
   have h2 := NN.Has.out hg
   rw [h1] at h2
   injection h2 with h2
   injection h2
  subst e2
  exact ⟨fun h4 => absurd hs h4, fun _ => ⟨_, hg.row _, rfl⟩⟩
 ·exact ⟨fun _ => h.otherRow _ _ e, fun h4 => ⟨cs', h.otherRow _ _ e, h4⟩⟩
def SmR (B b bH g j n c wk ob z : Nat) (bits : Int) : Nat → Value → World → Prop
 | 0, u, _ => u = .pointer (some ⟨b, 0, none⟩)
 | 1, u, _ => u = .pointer (some ⟨b, 0, none⟩)
 | 2, u, _ => u = .pointer (some ⟨b, 84, none⟩)
 | 3, u, _ => u = .slice (some ⟨g, 0, none⟩) n c
 | 4, u, _ => u = .int .i64 (j : Int)
 | 5, u, _ => u = .pointer (some ⟨g, j * 144, none⟩)
 | 6, u, _ => u = .pointer (some ⟨g, j * 144, none⟩)
 | 7, u, _ => u = .pointer (some ⟨g, j * 144 + 102, none⟩)
 | 8, u, _ => u = .agg (NN.numC wk)
 | 9, u, _ => u = .pointer (some ⟨bH, 66, none⟩)
 | 10, u, _ => u = .int .i64 bits
 | 11, u, _ => u = .agg (NN.numC ob)
 | 12, u, w => ∃ b', B ≤ b' ∧ u = .slice (some ⟨b', 0, none⟩) 2 2 ∧ NN.Has w b' (NN.numRow [wk, ob]) 26
 | 13, u, _ => u = .agg (NN.numC z)
 | 14, u, w => ∃ b' cs, B ≤ b' ∧ u = .pointer (some ⟨b', 0, none⟩) ∧ NN.Has w b' cs 26 ∧ cs.size = 4
 | _, _, _ => b = b
theorem qla_ (x y : Nat) : (NN.numRow [x, y]).size = 8 := by simp [NN.numRow, NN.qch_]
theorem qvk_ {B b bH g j n c wk ob z : Nat} {bits : Int} : ∀ (i : Nat) (u : Value) (w w' : World), SumS B w w' → SmR B b bH g j n c wk ob z bits i u w → SmR B b bH g j n c wk ob z bits i u w'
 | 0, _, _, _, _, h | 1, _, _, _, _, h | 2, _, _, _, _, h | 3, _, _, _, _, h | 4, _, _, _, _, h | 5, _, _, _, _, h | 6, _, _, _, _, h | 7, _, _, _, _, h | 8, _, _, _, _, h | 9, _, _, _, _, h | 10, _, _, _, _, h | 11, _, _, _, _, h | 13, _, _, _, _, h => h
 | 12, _, _, _, hs, ⟨b', h1, h2, h3⟩ => ⟨b', h1, h2, (hs b' _ h1 h3).1 (by rw [qla_]; decide)⟩
 | 14, _, _, _, hs, ⟨b', cs, h1, h2, h3, h4⟩ => by
  obtain ⟨cs', h5, h6⟩ := (hs b' cs h1 h3).2 h4
  exact ⟨b', cs', h1, h2, h5, h6⟩
 | _ + 15, _, _, _, _, _ => rfl
def PtR (B b n : Nat) (p : NN.Pr) (sp : Sp) (h : Hd) (e : En) (q : Ps) : Nat → Value → World → Prop
 | 0, u, _ => u = .pointer (some ⟨b, 0, none⟩)
 | 1, u, _ => u = .agg (enA e)
 | 2, u, _ => u = .pointer (some ⟨b, 0, none⟩)
 | 3, u, _ => u = .pointer (some ⟨b, 0, none⟩)
 | 4, u, _ => u = .pointer (some ⟨b, 0, none⟩)
 | 5, u, _ => u = .agg (NN.prA p)
 | 6, u, _ => u = .agg (spA sp)
 | 7, u, _ => u = .agg (hdA h)
 | 8, u, w => ∃ s : Sp, u = .agg (spA s) ∧ s.ok ∧ Sup (fun i => B ≤ i) (fun w => SpIs w 0 s q) w
 | 9, u, _ => u = .int .i64 (n : Int)
 | 10, u, _ => u = .int .i64 (n : Int)
 | 11, u, _ => u = .int .i64 0
 | 12, u, _ => u = .int .i64 0
 | _, _, _ => b = b
theorem qvl_ {B b n : Nat} {p : NN.Pr} {sp : Sp} {h : Hd} {e : En} {q : Ps} {G : Nat → Prop} (hG : ∀ i, G i → i < B) : ∀ (i : Nat) (u : Value) (w w' : World), Kp G w w' → PtR B b n p sp h e q i u w → PtR B b n p sp h e q i u w'
 | 0, _, _, _, _, h | 1, _, _, _, _, h | 2, _, _, _, _, h | 3, _, _, _, _, h | 4, _, _, _, _, h | 5, _, _, _, _, h | 6, _, _, _, _, h | 7, _, _, _, _, h | 9, _, _, _, _, h | 10, _, _, _, _, h | 11, _, _, _, _, h | 12, _, _, _, _, h => h
 | 8, _, _, _, hk, ⟨s, h1, h2, h3⟩ => ⟨s, h1, h2, h3.on hk fun i hi hg => absurd (hG i hg) (by omega)⟩
 | _ + 13, _, _, _, _, _ => rfl
def PtPost (B : Nat) (I : Nat → Prop) (b : Nat) (p : NN.Pr) (t : Tl) (gs : List Gt) (cs : List Ck) (room : Nat) (v : Value) (mb : Nat) (L : List Bk) (e : En) (q : Ps) (w : World) : Prop := ∃ I' v' s, Ara w I' b p t gs cs room v' mb (L ++ [⟨e, s, q⟩]) ∧ ∀ i, Mine I' b v' mb i → Mine I b v mb i ∨ B ≤ i
theorem qaam_ {w : World} {k : Nat} {e : En} (h : EnAt w k e) : w.rangeAt k 0 (enC e) := by
 have := qcg_ (A := []) (cs := enC e) (C := []) (o := 0) (w := w) (b := k) (t := 44) (by rw [List.append_nil]; exact h) rfl
 exact this
theorem qaan_ {w : World} {k : Nat} {s : Sp} (h : SpAt w k s) : w.rangeAt k 0 (spC s) := by
 have := qcg_ (A := []) (cs := spC s) (C := []) (o := 0) (w := w) (b := k) (t := 69) (by rw [List.append_nil]; exact h) rfl
 exact this
theorem qaao_ (b : Nat) (h : Hd) (ho : h.ok) (now : Int) (w : World) (KG : Hid (∀ w', Below w.heap.size w w' → Calls Tryz.prog 34 #[.agg (hdA h)] w' fun e w'' => e = .returned (.bool true) ∧ Below w'.heap.size w' w'')) (id : List UInt8) (i32 : id.length = 32) (KI : Hid (∀ w', Below w.heap.size w w' → Calls Tryz.prog 35 #[.agg (hdA h)] w' fun e w'' => e = .returned (.agg (bytesV id)) ∧ Below w'.heap.size w' w'')) (KF : Hid (∀ w', Below w.heap.size w w' → Calls Tryz.prog 15 #[.pointer (some ⟨b, 0, none⟩), .agg (bytesV id)] w' fun e w'' => e = .returned (.int .i64 (-1)) ∧ Below w'.heap.size w' w'')) {I : Nat → Prop} {p : NN.Pr} {t : Tl} {gs : List Gt} {cs : List Ck} {room g n c mb : Nat} {L : List Bk} (HA : Hid (∀ w', Below w.heap.size w w' → Ara w' I b p t gs cs room (.slice (some ⟨g, 0, none⟩) n c) mb L)) (x : Bk) (xe : x.e.ok) (xs : x.s.ok) (j : Nat) (hj : j < n) (HR : Hid (∀ w', Below w.heap.size w w' → w'.rangeAt g (j * 144) (bkC x.e x.s))) (KP : Hid (∀ w', Below w.heap.size w w' → Calls Tryz.prog 15 #[.pointer (some ⟨b, 0, none⟩), .agg (bytesV h.prev)] w' fun e w'' => e = .returned (.int .i64 (j : Int)) ∧ Below w'.heap.size w' w'')) (KC : Hid (∀ w', Below w.heap.size w w' → Calls Tryz.prog 36 #[.agg (NN.prA p), .agg (spA x.s), .agg (hdA h), .int .i64 now] w' fun e w'' => e = .returned (.int .i64 0) ∧ Below w'.heap.size w' w'')) (hroom : room ≤ n) :
  Ca_ 11 #[.pointer (some ⟨b, 0, none⟩), .agg (hdA h), .int .i64 now] w (.tuple #[.int .i64 (-1), .int .i64 0, .int .i64 6]) := by
 have za := qq_ ho
 go_enter Tryz.func11, Tryz.ntmps11
 go_upto_region 1 with fail
 generalize hw0 : World.alloc _ _ = v0
 have hB : Below w.heap.size w v0 := bl_ hw0
 have hH : HdAt v0 w.heap.size h := by rw [← hw0]; exact Has.new _ _
 clear hw0
 obtain ⟨bH, hbH⟩ : ∃ x, x = w.heap.size := ⟨_, rfl⟩
 rw [← hbH] at hH ⊢
 have HBH : Hid (bH = w.heap.size) := Lib.hid hbH
 clear hbH
 go_wp2_with (first | fail | (with_reducible refine qab_ rfl _ rfl _ rfl hH za ?_))
 refine (KG.out _ hB).mono ?_
 rintro e v1 ⟨rfl, hb⟩
 replace hH := hH.on hb
 replace hB := hB.trans (hb.mono hB.size)
 clear hb
 go_wp2_with (first | fail | (with_reducible refine qab_ rfl _ rfl _ rfl hH za ?_))
 refine (KI.out _ hB).mono ?_
 rintro e v2 ⟨rfl, hb⟩
 replace hH := hH.on hb
 replace hB := hB.trans (hb.mono hB.size)
 clear hb
 have s1 : (bytesV id).size = 32 := by rw [qr_]; exact i32
 have o1 := qy_ id
 have HW2 : Hid (w.heap.size ≤ v2.heap.size) := Lib.hid hB.size
 go_upto_region 6 with (with_reducible refine qcm_ rfl _ _ rfl _ (bytesV id) (bytesV id) rfl rfl rfl s1 o1 h0 (h0_new v2 _) rfl ?_)
 generalize hw4 : World.setRow _ _ _ = v3
 have hb2 : Below v2.heap.size v2 v3 := bw_ hw4
 have hI : Has v3 v2.heap.size (bytesV id) 28 := by rw [← hw4]; exact Has.row (h0_new v2 _) _
 replace hH := hH.on hb2
 replace hB := hB.trans (hb2.mono hB.size)
 clear hw4 hb2 o1
 obtain ⟨bI, hbI⟩ : ∃ b, b = v2.heap.size := ⟨_, rfl⟩
 rw [← hbI] at hI HW2 ⊢
 clear hbI
 go_wp2_with (first | fail | (with_reducible refine qha_ rfl _ rfl _ rfl _ hI s1 ?_))
 refine (KF.out _ hB).mono ?_
 rintro e v4 ⟨rfl, hb⟩
 replace hH := hH.on hb
 replace hI := qi_ hb hI (Has.lt hI)
 replace hB := hB.trans (hb.mono hB.size)
 clear hb
 have rp := hH.prev
 have s2 := qg_ ho.1
 go_wp2_with (first | fail | (with_reducible refine qn_ rfl _ rfl bH 1 rfl h.prev rp s2 ?_))
 refine (KP.out _ hB).mono ?_
 rintro e v5 ⟨rfl, hb⟩
 replace hH := hH.on hb
 replace hI := qi_ hb hI (Has.lt hI)
 replace hB := hB.trans (hb.mono hB.size)
 clear hb
 clear rp
 have hA5 := HA.out _ hB
 have c84 := ar84 hA5.has hA5.pok
 have rs := qku_ xe (HR.out _ hB)
 have z3 := qbs_ xs
 have z4 := qah_ xs
 have z0 := qah_ spZ_ok
 have hp := hA5.pok
 clear hA5
 have HW5 : Hid (w.heap.size ≤ v5.heap.size) := Lib.hid hB.size
 go_upto_region 13 with (first
  | (with_reducible refine qez_ rfl _ rfl g (j * 144 + 106) rfl x.s rs z3 ?_)
  | (with_reducible refine qdm_ rfl _ _ rfl _ _ x.s rfl rfl rfl z4 (qeh_ v5) z0 ?_))
 generalize hw4 : World.setRow _ _ _ = v6
 have hb2 : Below v5.heap.size v5 v6 := bw_ hw4
 have hS : SpAt v6 v5.heap.size x.s := by rw [← hw4]; exact Has.row (qeh_ v5) _
 replace hH := hH.on hb2
 replace hI := qi_ hb2 hI (Has.lt hI)
 replace hB := hB.trans (hb2.mono hB.size)
 clear hw4 hb2 c84 rs
 obtain ⟨bS, hbS⟩ : ∃ b, b = v5.heap.size := ⟨_, rfl⟩
 rw [← hbS] at hS HW5 ⊢
 clear hbS
 simp only [Act.put]
 have hz := qbi_ hp
 have ra := qs_ (ar_pr (HA.out _ hB).has) (by rw [hz]; omega)
 have qS := hS.cls
 have qH := qs_ hH.range (qcd_ h)
 have sh := qj_ ho
 have HBr : ∀ d os, Below w.heap.size w (Sort.grow (redrawn v6 d) os) := fun d os => hB.trans ((below_regrown v6 d os).mono hB.size)
 refine wp_region_quiet_below (by kernel_rfl) (by kernel_rfl) ?_
 repeat (first
  | (go_big_quiet_want; (with_reducible refine qhx_ 32 _ rfl b 0 rfl (NN.prC p) _ Tryz.underlying32 rfl (NN.prinfo.trans (by rw [hz])) ra ?_); (simp only [Act.put, List.setIfInBounds_toArray, List.set_cons_zero, List.set_cons_succ]); go_big_quiet_on)
  | (go_big_quiet_want; (with_reducible refine qdn_ _ rfl bS rfl z4 qS ?_); (simp only [Act.put, List.setIfInBounds_toArray, List.set_cons_zero, List.set_cons_succ]); go_big_quiet_on)
  | (go_big_quiet_want; (with_reducible refine qt_ _ rfl bH 0 rfl h sh qH ?_); (simp only [Act.put, List.setIfInBounds_toArray, List.set_cons_zero, List.set_cons_succ]); go_big_quiet_on)
  | go_big_quiet_step ((go_at_call 36; exact Calls.regrown_of (KC.out _ (HBr _ _)))))
 refine wpQuiet_nil ?_
 intro v7 hw'
 have hb := qas_ v7 hw'
 replace hH := hH.on hb
 replace hI := qi_ hb hI (Has.lt hI)
 replace hS := hS.on hb
 replace hB := hB.trans (hb.mono hB.size)
 clear hw' hb ra qS qH sh HBr
 go_upto_region 16 with fail
 have hA7 := HA.out _ hB
 have q84 : ∀ d os, (Sort.grow (redrawn v7 d) os).cell? ⟨b, 84, none⟩ = some (.slice (some ⟨g, 0, none⟩) n c) := cell_regrown (ar84 hA7.has hp)
 have q83 : ∀ d os, (Sort.grow (redrawn v7 d) os).cell? ⟨b, 83, none⟩ = some (.int .i64 (room : Int)) := cell_regrown (ar83 hA7.has hp)
 clear hA7
 refine wp_region_quiet_below (by kernel_rfl) (by kernel_rfl) ?_
 repeat (first
  | go_big_quiet_step (fail))
 refine wpQuiet_nil ?_
 intro v8 hw'
 have hb := qas_ v8 hw'
 replace hH := hH.on hb
 replace hI := qi_ hb hI (Has.lt hI)
 replace hS := hS.on hb
 replace hB := hB.trans (hb.mono hB.size)
 clear hw' hb q84 q83
 go_wp2_with fail
 go_ret3
 exact ⟨rfl, hB⟩
theorem add_new (b : Nat) (h : Hd) (ho : h.ok) (now : Int) (w : World) (KG : Hid (∀ w', Below w.heap.size w w' → Calls Tryz.prog 34 #[.agg (hdA h)] w' fun e w'' => e = .returned (.bool true) ∧ Below w'.heap.size w' w'')) (id : List UInt8) (i32 : id.length = 32) (KI : Hid (∀ w', Below w.heap.size w w' → Calls Tryz.prog 35 #[.agg (hdA h)] w' fun e w'' => e = .returned (.agg (bytesV id)) ∧ Below w'.heap.size w' w'')) (KF : Hid (∀ w', Below w.heap.size w w' → Calls Tryz.prog 15 #[.pointer (some ⟨b, 0, none⟩), .agg (bytesV id)] w' fun e w'' => e = .returned (.int .i64 (-1)) ∧ Below w'.heap.size w' w'')) {I : Nat → Prop} {p : NN.Pr} {t : Tl} {gs : List Gt} {cs : List Ck} {room g n c mb : Nat} {L : List Bk} (HA : Hid (∀ w', Below w.heap.size w w' → Ara w' I b p t gs cs room (.slice (some ⟨g, 0, none⟩) n c) mb L)) (x : Bk) (xe : x.e.ok) (xs : x.s.ok) (j : Nat) (hj : j < n) (HR : Hid (∀ w', Below w.heap.size w w' → w'.rangeAt g (j * 144) (bkC x.e x.s))) (KP : Hid (∀ w', Below w.heap.size w w' → Calls Tryz.prog 15 #[.pointer (some ⟨b, 0, none⟩), .agg (bytesV h.prev)] w' fun e w'' => e = .returned (.int .i64 (j : Int)) ∧ Below w'.heap.size w' w'')) (KC : Hid (∀ w', Below w.heap.size w w' → Calls Tryz.prog 36 #[.agg (NN.prA p), .agg (spA x.s), .agg (hdA h), .int .i64 now] w' fun e w'' => e = .returned (.int .i64 0) ∧ Below w'.heap.size w' w'')) (hroom : ¬ room ≤ n) (ob z : Nat) (KO : Hid (∀ w', Calls Tryz.prog 38 #[.int .i64 h.bits] w' fun e w'' => e = .returned (.agg (NN.numC ob)) ∧ Below w'.heap.size w' w'')) (KS : Hid (∀ b' w', NN.Has w' b' (NN.numRow [x.e.wk, ob]) 26 → Calls Tryz.prog 37 #[.slice (some ⟨b', 0, none⟩) 2 2] w' fun e w'' => e = .returned (.agg (NN.numC z)) ∧ Below w'.heap.size w' w'')) (q9 : Ps) (q32 : q9.prev.length = 32) (KB : Hid (∀ w', Below w.heap.size w w' → Calls Tryz.prog 25 #[.agg (NN.prA p), .agg (spA x.s), .agg (hdA h)] w' fun r w'' => ∃ s, r = .returned (.agg (spA s)) ∧ SpIs w'' w'.heap.size s q9 ∧ Below w'.heap.size w' w'')) (ht : Int) (e4 : x.s.x.h = ht) (hn : n = L.length) (hn9 : L.length ≤ 900) (hf : (L.map (·.e.id)).findIdx? (· == id) = none) :
  Calls Tryz.prog 11 #[.pointer (some ⟨b, 0, none⟩), .agg (hdA h), .int .i64 now] w fun r w' => ∃ I' v' s, r = .returned (.tuple #[.int .i64 (n : Int), .int .i64 0, .int .i64 0]) ∧ Ara w' I' b p t gs cs room v' mb (L ++ [⟨⟨h, id, (j : Int), ht, z⟩, s, q9⟩]) ∧ Kp (fun i => i = b ∨ i = mb ∨ (Value.slice (some ⟨g, 0, none⟩) n c).ownBlock = some i) w w' ∧ (∀ i, Mine I' b v' mb i → Mine I b (.slice (some ⟨g, 0, none⟩) n c) mb i ∨ w.heap.size ≤ i) := by
 have HE := Lib.hid (show n = L.length ∧ L.length ≤ 900 ∧ (L.map (·.e.id)).findIdx? (· == id) = none from ⟨hn, hn9, hf⟩)
 have E4 := Lib.hid e4
 clear e4 hn hn9 hf
 have za := qq_ ho
 go_enter Tryz.func11, Tryz.ntmps11
 go_upto_region 1 with fail
 generalize hw0 : World.alloc _ _ = v0
 have hB : Below w.heap.size w v0 := bl_ hw0
 have hH : HdAt v0 w.heap.size h := by rw [← hw0]; exact Has.new _ _
 clear hw0
 obtain ⟨bH, hbH⟩ : ∃ x, x = w.heap.size := ⟨_, rfl⟩
 rw [← hbH] at hH ⊢
 have HBH : Hid (bH = w.heap.size) := Lib.hid hbH
 clear hbH
 go_wp2_with (first | fail | (with_reducible refine qab_ rfl _ rfl _ rfl hH za ?_))
 refine (KG.out _ hB).mono ?_
 rintro e v1 ⟨rfl, hb⟩
 replace hH := hH.on hb
 replace hB := hB.trans (hb.mono hB.size)
 clear hb
 go_wp2_with (first | fail | (with_reducible refine qab_ rfl _ rfl _ rfl hH za ?_))
 refine (KI.out _ hB).mono ?_
 rintro e v2 ⟨rfl, hb⟩
 replace hH := hH.on hb
 replace hB := hB.trans (hb.mono hB.size)
 clear hb
 have s1 : (bytesV id).size = 32 := by rw [qr_]; exact i32
 have o1 := qy_ id
 have HW2 : Hid (w.heap.size ≤ v2.heap.size) := Lib.hid hB.size
 go_upto_region 6 with (with_reducible refine qcm_ rfl _ _ rfl _ (bytesV id) (bytesV id) rfl rfl rfl s1 o1 h0 (h0_new v2 _) rfl ?_)
 generalize hw4 : World.setRow _ _ _ = v3
 have hb2 : Below v2.heap.size v2 v3 := bw_ hw4
 have hI : Has v3 v2.heap.size (bytesV id) 28 := by rw [← hw4]; exact Has.row (h0_new v2 _) _
 replace hH := hH.on hb2
 replace hB := hB.trans (hb2.mono hB.size)
 clear hw4 hb2 o1
 obtain ⟨bI, hbI⟩ : ∃ b, b = v2.heap.size := ⟨_, rfl⟩
 rw [← hbI] at hI HW2 ⊢
 clear hbI
 go_wp2_with (first | fail | (with_reducible refine qha_ rfl _ rfl _ rfl _ hI s1 ?_))
 refine (KF.out _ hB).mono ?_
 rintro e v4 ⟨rfl, hb⟩
 replace hH := hH.on hb
 replace hI := qi_ hb hI (Has.lt hI)
 replace hB := hB.trans (hb.mono hB.size)
 clear hb
 have rp := hH.prev
 have s2 := qg_ ho.1
 go_wp2_with (first | fail | (with_reducible refine qn_ rfl _ rfl bH 1 rfl h.prev rp s2 ?_))
 refine (KP.out _ hB).mono ?_
 rintro e v5 ⟨rfl, hb⟩
 replace hH := hH.on hb
 replace hI := qi_ hb hI (Has.lt hI)
 replace hB := hB.trans (hb.mono hB.size)
 clear hb
 clear rp
 have hA5 := HA.out _ hB
 have c84 := ar84 hA5.has hA5.pok
 have rs := qku_ xe (HR.out _ hB)
 have z3 := qbs_ xs
 have z4 := qah_ xs
 have z0 := qah_ spZ_ok
 have hp := hA5.pok
 clear hA5
 have HW5 : Hid (w.heap.size ≤ v5.heap.size) := Lib.hid hB.size
 go_upto_region 13 with (first
  | (with_reducible refine qez_ rfl _ rfl g (j * 144 + 106) rfl x.s rs z3 ?_)
  | (with_reducible refine qdm_ rfl _ _ rfl _ _ x.s rfl rfl rfl z4 (qeh_ v5) z0 ?_))
 generalize hw4 : World.setRow _ _ _ = v6
 have hb2 : Below v5.heap.size v5 v6 := bw_ hw4
 have hS : SpAt v6 v5.heap.size x.s := by rw [← hw4]; exact Has.row (qeh_ v5) _
 replace hH := hH.on hb2
 replace hI := qi_ hb2 hI (Has.lt hI)
 replace hB := hB.trans (hb2.mono hB.size)
 clear hw4 hb2 c84 rs
 obtain ⟨bS, hbS⟩ : ∃ b, b = v5.heap.size := ⟨_, rfl⟩
 rw [← hbS] at hS HW5 ⊢
 clear hbS
 simp only [Act.put]
 have hz := qbi_ hp
 have ra := qs_ (ar_pr (HA.out _ hB).has) (by rw [hz]; omega)
 have qS := hS.cls
 have qH := qs_ hH.range (qcd_ h)
 have sh := qj_ ho
 have HBr : ∀ d os, Below w.heap.size w (Sort.grow (redrawn v6 d) os) := fun d os => hB.trans ((below_regrown v6 d os).mono hB.size)
 refine wp_region_quiet_below (by kernel_rfl) (by kernel_rfl) ?_
 repeat (first
  | (go_big_quiet_want; (with_reducible refine qhx_ 32 _ rfl b 0 rfl (NN.prC p) _ Tryz.underlying32 rfl (NN.prinfo.trans (by rw [hz])) ra ?_); (simp only [Act.put, List.setIfInBounds_toArray, List.set_cons_zero, List.set_cons_succ]); go_big_quiet_on)
  | (go_big_quiet_want; (with_reducible refine qdn_ _ rfl bS rfl z4 qS ?_); (simp only [Act.put, List.setIfInBounds_toArray, List.set_cons_zero, List.set_cons_succ]); go_big_quiet_on)
  | (go_big_quiet_want; (with_reducible refine qt_ _ rfl bH 0 rfl h sh qH ?_); (simp only [Act.put, List.setIfInBounds_toArray, List.set_cons_zero, List.set_cons_succ]); go_big_quiet_on)
  | go_big_quiet_step ((go_at_call 36; exact Calls.regrown_of (KC.out _ (HBr _ _)))))
 refine wpQuiet_nil ?_
 intro v7 hw'
 have hb := qas_ v7 hw'
 replace hH := hH.on hb
 replace hI := qi_ hb hI (Has.lt hI)
 replace hS := hS.on hb
 replace hB := hB.trans (hb.mono hB.size)
 clear hw' hb ra qS qH sh HBr
 go_upto_region 16 with fail
 have hA7 := HA.out _ hB
 have q84 : ∀ d os, (Sort.grow (redrawn v7 d) os).cell? ⟨b, 84, none⟩ = some (.slice (some ⟨g, 0, none⟩) n c) := cell_regrown (ar84 hA7.has hp)
 have q83 : ∀ d os, (Sort.grow (redrawn v7 d) os).cell? ⟨b, 83, none⟩ = some (.int .i64 (room : Int)) := cell_regrown (ar83 hA7.has hp)
 clear hA7
 refine wp_region_quiet_below (by kernel_rfl) (by kernel_rfl) ?_
 repeat (first
  | go_big_quiet_step (fail))
 refine wpQuiet_nil ?_
 intro v8 hw'
 have hb := qas_ v8 hw'
 replace hH := hH.on hb
 replace hI := qi_ hb hI (Has.lt hI)
 replace hS := hS.on hb
 replace hB := hB.trans (hb.mono hB.size)
 clear hw' hb q84 q83
 go_upto_region 18 with fail
 have HBv8 := Lib.hid hB
 refine ql_ (by kernel_rfl) (fun w' => Below v8.heap.size v8 w') (fun i v' w' => SmR v8.heap.size b bH g j n c x.e.wk ob z h.bits i v' w') (fun l a w' => PhA 15 14 (fun w' => v8.heap.size ≤ w'.heap.size) (fun u w' => ∃ b', u = .pointer (some ⟨b', 0, none⟩) ∧ v8.heap.size ≤ b' ∧ NN.Has w' b' (NN.numC z) 26) l a w') (SumS v8.heap.size) (fun _ _ => SumS.refl _ _) (fun i v w w' _ hs h => qvk_ i v w w' hs h) (by kernel_rfl) (Below.refl _ _).drew ?_ ?_ ?_
 ·exact fun l hl => PhA.zero hl (Below.refl v8.heap.size v8).drew.size
 ·intro i o listed a wx ho' hnl hdep hinv
  have hC := hinv.c
  have hI := hinv.i
  have hi : i < 16 := (Array.getElem?_eq_some_iff.1 ho').1
  have hHx : HdAt wx bH h := qi_ hC hH hH.lt
  have hbits := hHx.bits ho
  have hBx := HBv8.out.trans (hC.mono HBv8.out.size)
  have c84 := ar84 (HA.out _ hBx).has hp
  have rw := qaad_ xe (qrs_ (HR.out _ hBx))
  obtain rfl | rfl | rfl | rfl | rfl | rfl | rfl | rfl | rfl | rfl | rfl | rfl | rfl | rfl | rfl | rfl : i = 0 ∨ i = 1 ∨ i = 2 ∨ i = 3 ∨ i = 4 ∨ i = 5 ∨ i = 6 ∨ i = 7 ∨ i = 8 ∨ i = 9 ∨ i = 10 ∨ i = 11 ∨ i = 12 ∨ i = 13 ∨ i = 14 ∨ i = 15 := by omega
  all_goals obtain rfl := Option.some.inj ho'
  ·have hsz : 0 < listed.size := by rw [hinv.size]; decide
   exact qd_ (C := (fun w' => Below v8.heap.size v8 w')) (S := (SumS v8.heap.size)) (R := fun v' w' => SmR v8.heap.size b bH g j n c x.e.wk ob z h.bits 0 v' w') (J := fun a w' => PhA 15 14 (fun w' => v8.heap.size ≤ w'.heap.size) (fun u w' => ∃ b', u = .pointer (some ⟨b', 0, none⟩) ∧ v8.heap.size ≤ b' ∧ NN.Has w' b' (NN.numC z) 26) (listed.setIfInBounds 0 true) a w') (fun _ _ => SumS.refl _ _) hC (qa_ rfl) (NN.qbd_ rfl) (hinv.old' 0 (by kernel_rfl)) (hI.keep hsz (by decide) _ _ (by decide))
  ·have hsz : 1 < listed.size := by rw [hinv.size]; decide
   exact qd_ (C := (fun w' => Below v8.heap.size v8 w')) (S := (SumS v8.heap.size)) (R := fun v' w' => SmR v8.heap.size b bH g j n c x.e.wk ob z h.bits 1 v' w') (J := fun a w' => PhA 15 14 (fun w' => v8.heap.size ≤ w'.heap.size) (fun u w' => ∃ b', u = .pointer (some ⟨b', 0, none⟩) ∧ v8.heap.size ≤ b' ∧ NN.Has w' b' (NN.numC z) 26) (listed.setIfInBounds 1 true) a w') (fun _ _ => SumS.refl _ _) hC (qa_ rfl) (ex_nil rfl (hinv.got 0 _ 66 rfl (hdep ⟨0, .data⟩ (by simp) rfl) rfl)) rfl (hI.keep hsz (by decide) _ _ (by decide))
  ·have hsz : 2 < listed.size := by rw [hinv.size]; decide
   exact qd_ (C := (fun w' => Below v8.heap.size v8 w')) (S := (SumS v8.heap.size)) (R := fun v' w' => SmR v8.heap.size b bH g j n c x.e.wk ob z h.bits 2 v' w') (J := fun a w' => PhA 15 14 (fun w' => v8.heap.size ≤ w'.heap.size) (fun u w' => ∃ b', u = .pointer (some ⟨b', 0, none⟩) ∧ v8.heap.size ≤ b' ∧ NN.Has w' b' (NN.numC z) 26) (listed.setIfInBounds 2 true) a w') (fun _ _ => SumS.refl _ _) hC (qa_ rfl) (qcp_ rfl (hinv.got 1 _ 67 rfl (hdep ⟨1, .data⟩ (by simp) rfl) rfl) (afield2 wx b)) rfl (hI.keep hsz (by decide) _ _ (by decide))
  ·have hsz : 3 < listed.size := by rw [hinv.size]; decide
   exact qd_ (C := (fun w' => Below v8.heap.size v8 w')) (S := (SumS v8.heap.size)) (R := fun v' w' => SmR v8.heap.size b bH g j n c x.e.wk ob z h.bits 3 v' w') (J := fun a w' => PhA 15 14 (fun w' => v8.heap.size ≤ w'.heap.size) (fun u w' => ∃ b', u = .pointer (some ⟨b', 0, none⟩) ∧ v8.heap.size ≤ b' ∧ NN.Has w' b' (NN.numC z) 26) (listed.setIfInBounds 3 true) a w') (fun _ _ => SumS.refl _ _) hC (qa_ rfl) (qho_ rfl (hinv.got 2 _ 68 rfl (hdep ⟨2, .data⟩ (by simp) rfl) rfl) c84) rfl (hI.keep hsz (by decide) _ _ (by decide))
  ·have hsz : 4 < listed.size := by rw [hinv.size]; decide
   exact qd_ (C := (fun w' => Below v8.heap.size v8 w')) (S := (SumS v8.heap.size)) (R := fun v' w' => SmR v8.heap.size b bH g j n c x.e.wk ob z h.bits 4 v' w') (J := fun a w' => PhA 15 14 (fun w' => v8.heap.size ≤ w'.heap.size) (fun u w' => ∃ b', u = .pointer (some ⟨b', 0, none⟩) ∧ v8.heap.size ≤ b' ∧ NN.Has w' b' (NN.numC z) 26) (listed.setIfInBounds 4 true) a w') (fun _ _ => SumS.refl _ _) hC (qa_ rfl) (NN.qbd_ rfl) (hinv.old' 11 (by kernel_rfl)) (hI.keep hsz (by decide) _ _ (by decide))
  ·have hsz : 5 < listed.size := by rw [hinv.size]; decide
   exact qd_ (C := (fun w' => Below v8.heap.size v8 w')) (S := (SumS v8.heap.size)) (R := fun v' w' => SmR v8.heap.size b bH g j n c x.e.wk ob z h.bits 5 v' w') (J := fun a w' => PhA 15 14 (fun w' => v8.heap.size ≤ w'.heap.size) (fun u w' => ∃ b', u = .pointer (some ⟨b', 0, none⟩) ∧ v8.heap.size ≤ b' ∧ NN.Has w' b' (NN.numC z) 26) (listed.setIfInBounds 5 true) a w') (fun _ _ => SumS.refl _ _) hC (qa_ rfl) (ex_idx rfl (hinv.got 3 _ 69 rfl (hdep ⟨3, .data⟩ (by simp) rfl) rfl) (hinv.got 4 _ 70 rfl (hdep ⟨4, .data⟩ (by simp) rfl) rfl) (bk_idx wx g j n c hj)) rfl (hI.keep hsz (by decide) _ _ (by decide))
  ·have hsz : 6 < listed.size := by rw [hinv.size]; decide
   exact qd_ (C := (fun w' => Below v8.heap.size v8 w')) (S := (SumS v8.heap.size)) (R := fun v' w' => SmR v8.heap.size b bH g j n c x.e.wk ob z h.bits 6 v' w') (J := fun a w' => PhA 15 14 (fun w' => v8.heap.size ≤ w'.heap.size) (fun u w' => ∃ b', u = .pointer (some ⟨b', 0, none⟩) ∧ v8.heap.size ≤ b' ∧ NN.Has w' b' (NN.numC z) 26) (listed.setIfInBounds 6 true) a w') (fun _ _ => SumS.refl _ _) hC (qa_ rfl) (qib_ rfl (hinv.got 5 _ 71 rfl (hdep ⟨5, .data⟩ (by simp) rfl) rfl) (bkfield0 wx g (j * 144))) rfl (hI.keep hsz (by decide) _ _ (by decide))
  ·have hsz : 7 < listed.size := by rw [hinv.size]; decide
   exact qd_ (C := (fun w' => Below v8.heap.size v8 w')) (S := (SumS v8.heap.size)) (R := fun v' w' => SmR v8.heap.size b bH g j n c x.e.wk ob z h.bits 7 v' w') (J := fun a w' => PhA 15 14 (fun w' => v8.heap.size ≤ w'.heap.size) (fun u w' => ∃ b', u = .pointer (some ⟨b', 0, none⟩) ∧ v8.heap.size ≤ b' ∧ NN.Has w' b' (NN.numC z) 26) (listed.setIfInBounds 7 true) a w') (fun _ _ => SumS.refl _ _) hC (qa_ rfl) (qib_ rfl (hinv.got 6 _ 72 rfl (hdep ⟨6, .data⟩ (by simp) rfl) rfl) (efield4 wx g (j * 144))) rfl (hI.keep hsz (by decide) _ _ (by decide))
  ·have hsz : 8 < listed.size := by rw [hinv.size]; decide
   exact qd_ (C := (fun w' => Below v8.heap.size v8 w')) (S := (SumS v8.heap.size)) (R := fun v' w' => SmR v8.heap.size b bH g j n c x.e.wk ob z h.bits 8 v' w') (J := fun a w' => PhA 15 14 (fun w' => v8.heap.size ≤ w'.heap.size) (fun u w' => ∃ b', u = .pointer (some ⟨b', 0, none⟩) ∧ v8.heap.size ≤ b' ∧ NN.Has w' b' (NN.numC z) 26) (listed.setIfInBounds 8 true) a w') (fun _ _ => SumS.refl _ _) hC (qa_ rfl) (qkz_ rfl (hinv.got 7 _ 73 rfl (hdep ⟨7, .data⟩ (by simp) rfl) rfl) rw) rfl (hI.keep hsz (by decide) _ _ (by decide))
  ·have hsz : 9 < listed.size := by rw [hinv.size]; decide
   exact qd_ (C := (fun w' => Below v8.heap.size v8 w')) (S := (SumS v8.heap.size)) (R := fun v' w' => SmR v8.heap.size b bH g j n c x.e.wk ob z h.bits 9 v' w') (J := fun a w' => PhA 15 14 (fun w' => v8.heap.size ≤ w'.heap.size) (fun u w' => ∃ b', u = .pointer (some ⟨b', 0, none⟩) ∧ v8.heap.size ≤ b' ∧ NN.Has w' b' (NN.numC z) 26) (listed.setIfInBounds 9 true) a w') (fun _ _ => SumS.refl _ _) hC (qa_ rfl) (qcp_ rfl (hinv.old' 4 (by kernel_rfl)) (hfield4 wx bH)) rfl (hI.keep hsz (by decide) _ _ (by decide))
  ·have hsz : 10 < listed.size := by rw [hinv.size]; decide
   exact qd_ (C := (fun w' => Below v8.heap.size v8 w')) (S := (SumS v8.heap.size)) (R := fun v' w' => SmR v8.heap.size b bH g j n c x.e.wk ob z h.bits 10 v' w') (J := fun a w' => PhA 15 14 (fun w' => v8.heap.size ≤ w'.heap.size) (fun u w' => ∃ b', u = .pointer (some ⟨b', 0, none⟩) ∧ v8.heap.size ≤ b' ∧ NN.Has w' b' (NN.numC z) 26) (listed.setIfInBounds 10 true) a w') (fun _ _ => SumS.refl _ _) hC (qa_ rfl) (NN.qbj_ rfl (hinv.got 9 _ 75 rfl (hdep ⟨9, .data⟩ (by simp) rfl) rfl) hbits) rfl (hI.keep hsz (by decide) _ _ (by decide))
  ·have hsz : 11 < listed.size := by rw [hinv.size]; decide
   have hnK : (listed.setIfInBounds 11 true).getD 15 false = false := hinv.aheadT 15 (by kernel_rfl) hnl (by decide) (by decide)
   have hpre := hI.pre hnK hsz (by decide)
   exact qam_ (C := (fun w' => Below v8.heap.size v8 w')) (S := (SumS v8.heap.size)) (R := fun v' w' => SmR v8.heap.size b bH g j n c x.e.wk ob z h.bits 11 v' w') (J := fun a w' => PhA 15 14 (fun w' => v8.heap.size ≤ w'.heap.size) (fun u w' => ∃ b', u = .pointer (some ⟨b', 0, none⟩) ∧ v8.heap.size ≤ b' ∧ NN.Has w' b' (NN.numC z) 26) (listed.setIfInBounds 11 true) a w') (qa_ rfl) (f := 38) (args := #[a.eval (.tmp 76)]) (by kernel_rfl) (by rw [show a.eval (.tmp 76) = _ from (hinv.got 10 _ 76 rfl (hdep ⟨10, .data⟩ (by simp) rfl) rfl)];  exact KO.out wx) (fun w' hb => ⟨hC.trans (hb.mono hC.size), SumS.below hb, rfl, PhA.made hnK (Nat.le_trans hpre hb.size)⟩)
  ·have hsz : 12 < listed.size := by rw [hinv.size]; decide
   have hnK : (listed.setIfInBounds 12 true).getD 15 false = false := hinv.aheadT 15 (by kernel_rfl) hnl (by decide) (by decide)
   have hpre := hI.pre hnK hsz (by decide)
   have hb : Below wx.heap.size wx (wx.alloc (.cells (NN.numRow [x.e.wk, ob]) 26)) := (Below.refl _ _).alloc (Nat.le_refl _) _
   exact qaf_ (C := (fun w' => Below v8.heap.size v8 w')) (S := (SumS v8.heap.size)) (R := fun v' w' => SmR v8.heap.size b bH g j n c x.e.wk ob z h.bits 12 v' w') (J := fun a w' => PhA 15 14 (fun w' => v8.heap.size ≤ w'.heap.size) (fun u w' => ∃ b', u = .pointer (some ⟨b', 0, none⟩) ∧ v8.heap.size ≤ b' ∧ NN.Has w' b' (NN.numC z) 26) (listed.setIfInBounds 12 true) a w') (qa_ rfl) (NN.qmg_ rfl (hinv.got 8 _ 74 rfl (hdep ⟨8, .data⟩ (by simp) rfl) rfl) (hinv.got 11 _ 77 rfl (hdep ⟨11, .data⟩ (by simp) rfl) rfl)) (hC.trans (hb.mono hC.size)) (SumS.below hb) ⟨wx.heap.size, hC.size, rfl, NN.Has.new _ _⟩ (PhA.made hnK (Nat.le_trans hpre hb.size))
  ·have hsz : 13 < listed.size := by rw [hinv.size]; decide
   have hnK : (listed.setIfInBounds 13 true).getD 15 false = false := hinv.aheadT 15 (by kernel_rfl) hnl (by decide) (by decide)
   have hpre := hI.pre hnK hsz (by decide)
   obtain ⟨b', hb1, e78, hb3⟩ := (hinv.got 12 _ 78 rfl (hdep ⟨12, .data⟩ (by simp) rfl) rfl)
   exact qam_ (C := (fun w' => Below v8.heap.size v8 w')) (S := (SumS v8.heap.size)) (R := fun v' w' => SmR v8.heap.size b bH g j n c x.e.wk ob z h.bits 13 v' w') (J := fun a w' => PhA 15 14 (fun w' => v8.heap.size ≤ w'.heap.size) (fun u w' => ∃ b', u = .pointer (some ⟨b', 0, none⟩) ∧ v8.heap.size ≤ b' ∧ NN.Has w' b' (NN.numC z) 26) (listed.setIfInBounds 13 true) a w') (qa_ rfl) (f := 37) (args := #[a.eval (.tmp 78)]) (by kernel_rfl) (by rw [e78]; exact KS.out b' wx hb3) (fun w' hb => ⟨hC.trans (hb.mono hC.size), SumS.below hb, rfl, PhA.made hnK (Nat.le_trans hpre hb.size)⟩)
  ·have hsz : 14 < listed.size := by rw [hinv.size]; decide
   have hnK : (listed.setIfInBounds 14 true).getD 15 false = false := hinv.aheadT 15 (by kernel_rfl) hnl (by decide) (by decide)
   have hpre := hI.pre hnK hsz (by decide)
   have hb : Below wx.heap.size wx (wx.alloc (.cells (NN.numC 0) 26)) := (Below.refl _ _).alloc (Nat.le_refl _) _
   exact qaf_ (C := (fun w' => Below v8.heap.size v8 w')) (S := (SumS v8.heap.size)) (R := fun v' w' => SmR v8.heap.size b bH g j n c x.e.wk ob z h.bits 14 v' w') (J := fun a w' => PhA 15 14 (fun w' => v8.heap.size ≤ w'.heap.size) (fun u w' => ∃ b', u = .pointer (some ⟨b', 0, none⟩) ∧ v8.heap.size ≤ b' ∧ NN.Has w' b' (NN.numC z) 26) (listed.setIfInBounds 14 true) a w') (qa_ rfl) (NN.qcf_ rfl) (hC.trans (hb.mono hC.size)) (SumS.below hb) ⟨wx.heap.size, NN.numC 0, hC.size, rfl, NN.Has.new _ _, rfl⟩ (PhA.made hnK (Nat.le_trans hpre hb.size))
  ·have hsz : 15 < listed.size := by rw [hinv.size]; decide
   obtain ⟨b', cs', hb1, e14, hb3, hb4⟩ := (hinv.got 14 _ 14 rfl (hdep ⟨14, .data⟩ (by simp) rfl) rfl)
   exact qx_ (C := (fun w' => Below v8.heap.size v8 w')) (S := (SumS v8.heap.size)) (R := fun v' w' => SmR v8.heap.size b bH g j n c x.e.wk ob z h.bits 15 v' w') (J := fun a w' => PhA 15 14 (fun w' => v8.heap.size ≤ w'.heap.size) (fun u w' => ∃ b', u = .pointer (some ⟨b', 0, none⟩) ∧ v8.heap.size ≤ b' ∧ NN.Has w' b' (NN.numC z) 26) (listed.setIfInBounds 15 true) a w') (qa_ rfl) (NN.qau_ rfl e14 (hinv.got 13 _ 79 rfl (hdep ⟨13, .data⟩ (by simp) rfl) rfl) hb3 hb4) (below_setRow hC hb1 _) (SumS.row hb3 hb4) rfl (PhA.last _ hsz ⟨b', e14, hb1, hb3.row _⟩)
 intro listed a' v9 hall hinv
 have hC := hinv.c
 obtain ⟨bW, e14, hbW, hW⟩ := hinv.i.2 (hall 15 (by decide))
 have e0 : a'.eval (.tmp 0) = .pointer (some ⟨b, 0, none⟩) := hinv.old' 0 (by kernel_rfl)
 have e4 : a'.eval (.tmp 4) = .pointer (some ⟨bH, 0, none⟩) := hinv.old' 4 (by kernel_rfl)
 have e9 : a'.eval (.tmp 9) = .pointer (some ⟨bI, 0, none⟩) := hinv.old' 9 (by kernel_rfl)
 have e11 : a'.eval (.tmp 11) = .int .i64 (j : Int) := hinv.old' 11 (by kernel_rfl)
 have e12 : a'.eval (.tmp 12) = .pointer (some ⟨bS, 0, none⟩) := hinv.old' 12 (by kernel_rfl)
 obtain ⟨u, hu⟩ : ∃ u : Nat → Value, ∀ t, u t = a'.eval (.tmp t) := ⟨_, fun _ => rfl⟩
 rw [qbh_ a' 98 u hinv.tsize hinv.defers hu]
 rw [← hu] at e0 e4 e9 e11 e12 e14
 clear hu hinv hall
 show Exit.then _ _ _ (⟨#[u 0, u 1, u 2, u 3, u 4, u 5, u 6, u 7, u 8, u 9, u 10, u 11, u 12, u 13, u 14, u 15, u 16, u 17, u 18, u 19, u 20, u 21, u 22, u 23, u 24, u 25, u 26, u 27, u 28, u 29, u 30, u 31, u 32, u 33, u 34, u 35, u 36, u 37, u 38, u 39, u 40, u 41, u 42, u 43, u 44, u 45, u 46, u 47, u 48, u 49, u 50, u 51, u 52, u 53, u 54, u 55, u 56, u 57, u 58, u 59, u 60, u 61, u 62, u 63, u 64, u 65, u 66, u 67, u 68, u 69, u 70, u 71, u 72, u 73, u 74, u 75, u 76, u 77, u 78, u 79, u 80, u 81, u 82, u 83, u 84, u 85, u 86, u 87, u 88, u 89, u 90, u 91, u 92, u 93, u 94, u 95, u 96, u 97], []⟩ : Act) v9
 rw [e0, e4, e9, e11, e12, e14]
 clear e0 e4 e9 e11 e12 e14
 have hH9 : HdAt v9 bH h := qi_ hC hH hH.lt
 have hI9 : Has v9 bI (bytesV id) 28 := qi_ hC hI (Has.lt hI)
 have hS9 : SpAt v9 bS x.s := qi_ hC hS hS.lt
 have hB9 := hB.trans (hC.mono hB.size)
 have HLT : Hid (w.heap.size ≤ bH ∧ w.heap.size ≤ bI ∧ w.heap.size ≤ bS) := Lib.hid ⟨by rw [HBH.out]; exact Nat.le_refl _, HW2.out, HW5.out⟩
 clear hC hH hI hS hB hbW
 have c0 := hS9.c0 (z := ht) E4
 have he : (⟨h, id, (j : Int), ht, z⟩ : En).ok := ⟨ho, i32⟩
 have ze := qbx_ he
 have zz := qbx_ enZ_ok
 go_upto_region 20 with (first
  | (with_reducible refine qab_ rfl _ rfl _ rfl hH9 za ?_)
  | (with_reducible refine qha_ rfl _ rfl _ rfl _ hI9 s1 ?_)
  | (with_reducible refine NN.qb_ rfl _ rfl _ rfl _ hW rfl ?_)
  | (with_reducible refine qaab_ rfl _ _ _ _ _ rfl ⟨h, id, (j : Int), ht, z⟩ he rfl rfl rfl rfl rfl ?_)
  | (with_reducible refine qfa_ rfl _ _ rfl _ _ ⟨h, id, (j : Int), ht, z⟩ rfl rfl rfl ze (qhn_ v9) zz ?_))
 generalize hw4 : World.setRow _ _ _ = v10
 have hb2 : Below v9.heap.size v9 v10 := bw_ hw4
 have hE : EnAt v10 v9.heap.size ⟨h, id, (j : Int), ht, z⟩ := by rw [← hw4]; exact Has.row (qhn_ v9) _
 have hH10 := hH9.on hb2
 have hS10 := hS9.on hb2
 have hB10 := hB9.trans (hb2.mono hB9.size)
 have HLE : Hid (w.heap.size ≤ v9.heap.size) := Lib.hid hB9.size
 clear hw4 hb2 hH9 hI9 hS9 hW c0 hB9
 obtain ⟨bE, hbE⟩ : ∃ b, b = v9.heap.size := ⟨_, rfl⟩
 rw [← hbE] at hE ⊢
 have HLE2 : Hid (w.heap.size ≤ bE) := Lib.hid (by rw [hbE]; exact HLE.out)
 clear hbE
 simp only [Act.put]
 have hA10 := HA.out _ hB10
 have hA0 := HA.out _ (Below.refl _ _)
 generalize hF : (fun i => i = b ∨ i = mb ∨ (Value.slice (some ⟨g, 0, none⟩) n c).ownBlock = some i) = F
 have fl : ∀ i, F i → i < w.heap.size := fun i hi => by
  rw [← hF] at hi
  exact hA0.mine_lt (.inr hi)
 have HFE := Lib.hid hF
 have FL : ∀ k, w.heap.size ≤ k → ¬ F k := fun k hk hf => by have := fl k hf; omega
 have hz := qbi_ hp
 clear hF hA0
 refine ql_ (by kernel_rfl) (fun w' => Kp F v10 w') (fun i v' w' => PtR v10.heap.size b n p x.s h (En.mk h id (j : Int) ht z) q9 i v' w') (fun l _ w' => Ph 9 (fun w' => Below v10.heap.size v10 w' ∧ Ara w' I b p t gs cs room (.slice (some ⟨g, 0, none⟩) n c) mb L) (fun w' => PtPost w.heap.size I b p t gs cs room (.slice (some ⟨g, 0, none⟩) n c) mb L (En.mk h id (j : Int) ht z) q9 w') l w') (fun w w' => Kp F w w') (fun w' _ => Kp.refl _ w') (fun i v w w' _ hs h => qvl_ (fun i hi => Nat.lt_of_lt_of_le (fl i hi) hB10.size) i v w w' hs h) (by kernel_rfl) (Kp.of (Below.refl _ _).drew) ?_ ?_ ?_
 ·exact fun l hl => Ph.zero hl ⟨(Below.refl _ _).drew, hA10.below (Below.refl _ _).drew⟩
 ·intro i o listed a wx ho' hnl hdep hinv
  have hC := hinv.c
  have hI := hinv.i
  have hi : i < 13 := (Array.getElem?_eq_some_iff.1 ho').1
  have hHx : HdAt wx bH h := hC.has hH10 (FL _ HLT.out.1)
  have hSx : SpAt wx bS x.s := hC.has hS10 (FL _ HLT.out.2.2)
  have hEx : EnAt wx bE (En.mk h id (j : Int) ht z) := hC.has hE (FL _ HLE2.out)
  obtain rfl | rfl | rfl | rfl | rfl | rfl | rfl | rfl | rfl | rfl | rfl | rfl | rfl : i = 0 ∨ i = 1 ∨ i = 2 ∨ i = 3 ∨ i = 4 ∨ i = 5 ∨ i = 6 ∨ i = 7 ∨ i = 8 ∨ i = 9 ∨ i = 10 ∨ i = 11 ∨ i = 12 := by omega
  all_goals obtain rfl := Option.some.inj ho'
  ·have hsz : 0 < listed.size := by rw [hinv.size]; decide
   exact qd_ (C := (fun w' => Kp F v10 w')) (S := (fun w w' => Kp F w w')) (R := fun v' w' => PtR v10.heap.size b n p x.s h (En.mk h id (j : Int) ht z) q9 0 v' w') (J := fun _ w' => Ph 9 (fun w' => Below v10.heap.size v10 w' ∧ Ara w' I b p t gs cs room (.slice (some ⟨g, 0, none⟩) n c) mb L) (fun w' => PtPost w.heap.size I b p t gs cs room (.slice (some ⟨g, 0, none⟩) n c) mb L (En.mk h id (j : Int) ht z) q9 w') (listed.setIfInBounds 0 true) w') (fun w' _ => Kp.refl _ w') hC (qa_ rfl) (NN.qbd_ rfl) (hinv.old' 0 (by kernel_rfl)) (hI.keep hsz (by decide))
  ·have hsz : 1 < listed.size := by rw [hinv.size]; decide
   exact qd_ (C := (fun w' => Kp F v10 w')) (S := (fun w w' => Kp F w w')) (R := fun v' w' => PtR v10.heap.size b n p x.s h (En.mk h id (j : Int) ht z) q9 1 v' w') (J := fun _ w' => Ph 9 (fun w' => Below v10.heap.size v10 w' ∧ Ara w' I b p t gs cs room (.slice (some ⟨g, 0, none⟩) n c) mb L) (fun w' => PtPost w.heap.size I b p t gs cs room (.slice (some ⟨g, 0, none⟩) n c) mb L (En.mk h id (j : Int) ht z) q9 w') (listed.setIfInBounds 1 true) w') (fun w' _ => Kp.refl _ w') hC (qa_ rfl) (qjj_ rfl (hinv.old' 15 (by kernel_rfl)) (qaam_ hEx) (qbu_ he)) rfl (hI.keep hsz (by decide))
  ·have hsz : 2 < listed.size := by rw [hinv.size]; decide
   exact qd_ (C := (fun w' => Kp F v10 w')) (S := (fun w w' => Kp F w w')) (R := fun v' w' => PtR v10.heap.size b n p x.s h (En.mk h id (j : Int) ht z) q9 2 v' w') (J := fun _ w' => Ph 9 (fun w' => Below v10.heap.size v10 w' ∧ Ara w' I b p t gs cs room (.slice (some ⟨g, 0, none⟩) n c) mb L) (fun w' => PtPost w.heap.size I b p t gs cs room (.slice (some ⟨g, 0, none⟩) n c) mb L (En.mk h id (j : Int) ht z) q9 w') (listed.setIfInBounds 2 true) w') (fun w' _ => Kp.refl _ w') hC (qa_ rfl) (NN.qbd_ rfl) (hinv.old' 0 (by kernel_rfl)) (hI.keep hsz (by decide))
  ·have hsz : 3 < listed.size := by rw [hinv.size]; decide
   exact qd_ (C := (fun w' => Kp F v10 w')) (S := (fun w w' => Kp F w w')) (R := fun v' w' => PtR v10.heap.size b n p x.s h (En.mk h id (j : Int) ht z) q9 3 v' w') (J := fun _ w' => Ph 9 (fun w' => Below v10.heap.size v10 w' ∧ Ara w' I b p t gs cs room (.slice (some ⟨g, 0, none⟩) n c) mb L) (fun w' => PtPost w.heap.size I b p t gs cs room (.slice (some ⟨g, 0, none⟩) n c) mb L (En.mk h id (j : Int) ht z) q9 w') (listed.setIfInBounds 3 true) w') (fun w' _ => Kp.refl _ w') hC (qa_ rfl) (ex_nil rfl (hinv.got 2 _ 90 rfl (hdep ⟨2, .data⟩ (by simp) rfl) rfl)) rfl (hI.keep hsz (by decide))
  ·have hsz : 4 < listed.size := by rw [hinv.size]; decide
   exact qd_ (C := (fun w' => Kp F v10 w')) (S := (fun w w' => Kp F w w')) (R := fun v' w' => PtR v10.heap.size b n p x.s h (En.mk h id (j : Int) ht z) q9 4 v' w') (J := fun _ w' => Ph 9 (fun w' => Below v10.heap.size v10 w' ∧ Ara w' I b p t gs cs room (.slice (some ⟨g, 0, none⟩) n c) mb L) (fun w' => PtPost w.heap.size I b p t gs cs room (.slice (some ⟨g, 0, none⟩) n c) mb L (En.mk h id (j : Int) ht z) q9 w') (listed.setIfInBounds 4 true) w') (fun w' _ => Kp.refl _ w') hC (qa_ rfl) (qcp_ rfl (hinv.got 3 _ 91 rfl (hdep ⟨3, .data⟩ (by simp) rfl) rfl) (afield0 wx b)) rfl (hI.keep hsz (by decide))
  ·have hsz : 5 < listed.size := by rw [hinv.size]; decide
   have hnK : (listed.setIfInBounds 5 true).getD 9 false = false := hinv.aheadT 9 (by kernel_rfl) hnl (by decide) (by decide)
   have hpre := hI.pre hnK hsz (by decide)
   exact qd_ (C := (fun w' => Kp F v10 w')) (S := (fun w w' => Kp F w w')) (R := fun v' w' => PtR v10.heap.size b n p x.s h (En.mk h id (j : Int) ht z) q9 5 v' w') (J := fun _ w' => Ph 9 (fun w' => Below v10.heap.size v10 w' ∧ Ara w' I b p t gs cs room (.slice (some ⟨g, 0, none⟩) n c) mb L) (fun w' => PtPost w.heap.size I b p t gs cs room (.slice (some ⟨g, 0, none⟩) n c) mb L (En.mk h id (j : Int) ht z) q9 w') (listed.setIfInBounds 5 true) w') (fun w' _ => Kp.refl _ w') hC (qa_ rfl) (qnq_ rfl (hinv.got 4 _ 92 rfl (hdep ⟨4, .data⟩ (by simp) rfl) rfl) (ar_pr hpre.2.has) hz) rfl (hI.keep hsz (by decide))
  ·have hsz : 6 < listed.size := by rw [hinv.size]; decide
   exact qd_ (C := (fun w' => Kp F v10 w')) (S := (fun w w' => Kp F w w')) (R := fun v' w' => PtR v10.heap.size b n p x.s h (En.mk h id (j : Int) ht z) q9 6 v' w') (J := fun _ w' => Ph 9 (fun w' => Below v10.heap.size v10 w' ∧ Ara w' I b p t gs cs room (.slice (some ⟨g, 0, none⟩) n c) mb L) (fun w' => PtPost w.heap.size I b p t gs cs room (.slice (some ⟨g, 0, none⟩) n c) mb L (En.mk h id (j : Int) ht z) q9 w') (listed.setIfInBounds 6 true) w') (fun w' _ => Kp.refl _ w') hC (qa_ rfl) (qjk_ rfl (hinv.old' 12 (by kernel_rfl)) (qaan_ hSx) z3) rfl (hI.keep hsz (by decide))
  ·have hsz : 7 < listed.size := by rw [hinv.size]; decide
   exact qd_ (C := (fun w' => Kp F v10 w')) (S := (fun w w' => Kp F w w')) (R := fun v' w' => PtR v10.heap.size b n p x.s h (En.mk h id (j : Int) ht z) q9 7 v' w') (J := fun _ w' => Ph 9 (fun w' => Below v10.heap.size v10 w' ∧ Ara w' I b p t gs cs room (.slice (some ⟨g, 0, none⟩) n c) mb L) (fun w' => PtPost w.heap.size I b p t gs cs room (.slice (some ⟨g, 0, none⟩) n c) mb L (En.mk h id (j : Int) ht z) q9 w') (listed.setIfInBounds 7 true) w') (fun w' _ => Kp.refl _ w') hC (qa_ rfl) (qfb_ rfl (hinv.old' 4 (by kernel_rfl)) hHx.range (qj_ ho)) rfl (hI.keep hsz (by decide))
  ·have hsz : 8 < listed.size := by rw [hinv.size]; decide
   have hnK : (listed.setIfInBounds 8 true).getD 9 false = false := hinv.aheadT 9 (by kernel_rfl) hnl (by decide) (by decide)
   have hpre := hI.pre hnK hsz (by decide)
   exact qds_ (V := fun v w' => ∃ s, v = .agg (spA s) ∧ SpIs w' wx.heap.size s q9) (C := (fun w' => Kp F v10 w')) (S := (fun w w' => Kp F w w')) (R := fun v' w' => PtR v10.heap.size b n p x.s h (En.mk h id (j : Int) ht z) q9 8 v' w') (J := fun _ w' => Ph 9 (fun w' => Below v10.heap.size v10 w' ∧ Ara w' I b p t gs cs room (.slice (some ⟨g, 0, none⟩) n c) mb L) (fun w' => PtPost w.heap.size I b p t gs cs room (.slice (some ⟨g, 0, none⟩) n c) mb L (En.mk h id (j : Int) ht z) q9 w') (listed.setIfInBounds 8 true) w') (qa_ rfl) (f := 25) (args := #[a.eval (.tmp 93), a.eval (.tmp 94), a.eval (.tmp 95)]) (by kernel_rfl) (by
    rw [show a.eval (.tmp 93) = _ from (hinv.got 5 _ 93 rfl (hdep ⟨5, .data⟩ (by simp) rfl) rfl), show a.eval (.tmp 94) = _ from (hinv.got 6 _ 94 rfl (hdep ⟨6, .data⟩ (by simp) rfl) rfl), show a.eval (.tmp 95) = _ from (hinv.got 7 _ 95 rfl (hdep ⟨7, .data⟩ (by simp) rfl) rfl)]
    refine (KB.out wx ?_).mono ?_
    ·exact hB10.trans (hpre.1.mono hB10.size)
    ·rintro r w' ⟨s, rfl, h2, h3⟩
     exact ⟨_, rfl, ⟨s, rfl, h2⟩, h3⟩) (fun v w' hv hb => ⟨hC.trans (Kp.of (F := F) hb) (fun i hi _ => hi), Kp.of hb, (by
     obtain ⟨s, rfl, h2⟩ := hv
     exact ⟨s, rfl, (by unfold Sp.ok; rw [h2.2.1]; exact q32), qro_ h2 fun i hi _ => Nat.le_trans hC.size hi⟩), Ph.made hnK ⟨hpre.1.trans (hb.mono hpre.1.size), hpre.2.below hb⟩⟩)
  ·have hsz : 9 < listed.size := by rw [hinv.size]; decide
   have hpre := hI.1 hnl
   obtain ⟨s, e96, so, hJ⟩ := (hinv.got 8 _ 96 rfl (hdep ⟨8, .data⟩ (by simp) rfl) rfl)
   exact qcj_ (C := (fun w' => Kp F v10 w')) (S := (fun w w' => Kp F w w')) (R := fun v' w' => PtR v10.heap.size b n p x.s h (En.mk h id (j : Int) ht z) q9 9 v' w') (J := fun _ w' => Ph 9 (fun w' => Below v10.heap.size v10 w' ∧ Ara w' I b p t gs cs room (.slice (some ⟨g, 0, none⟩) n c) mb L) (fun w' => PtPost w.heap.size I b p t gs cs room (.slice (some ⟨g, 0, none⟩) n c) mb L (En.mk h id (j : Int) ht z) q9 w') (listed.setIfInBounds 9 true) w') (qa_ rfl) (f := 32) (args := #[a.eval (.tmp 88), a.eval (.tmp 89), a.eval (.tmp 96)]) (by kernel_rfl) (by
    rw [show a.eval (.tmp 88) = _ from (hinv.got 0 _ 88 rfl (hdep ⟨0, .data⟩ (by simp) rfl) rfl), show a.eval (.tmp 89) = _ from (hinv.got 1 _ 89 rfl (hdep ⟨1, .data⟩ (by simp) rfl) rfl), e96]
    obtain ⟨hn, hn9, hf⟩ := HE.out
    refine (qry_ hpre.2 ⟨En.mk h id (j : Int) ht z, s, q9⟩ he so (fun i => v10.heap.size ≤ i ∧ i < wx.heap.size) hJ.clip (fun i hi => hi.2) (fun i hi hq => ?_) hn9 hf).mono ?_
    ·have := fl i (by rw [← HFE.out]; exact hq)
     have := hB10.size
     omega
    ·rintro r w' ⟨v', rfl, hA', hK, hl⟩
     have hKF : Kp F wx w' := hK.mono fun i hi _ => by rw [← HFE.out]; exact hi
     refine ⟨_, rfl, hC.trans hKF (fun i hi _ => hi), hKF, (by rw [← hn]; rfl), Ph.last hsz ⟨_, v', _, hA', fun i hi => ?_⟩⟩
     have h10 := hB10.size
     rcases hi with (hi | hi) | rfl | rfl | hi
     ·exact .inl (.inl hi)
     ·exact .inr (Nat.le_trans h10 hi.1)
     ·exact .inl (.inr (.inl rfl))
     ·exact .inl (.inr (.inr (.inl rfl)))
     ·rcases hl with hl | ⟨g', hl, hg⟩
      ·exact .inl (.inr (.inr (.inr (hl.symm.trans hi))))
      ·rw [hl] at hi
       have hig : g' = i := Option.some.inj hi
       have := hC.size
       exact .inr (by omega))
  ·have hsz : 10 < listed.size := by rw [hinv.size]; decide
   exact qd_ (C := (fun w' => Kp F v10 w')) (S := (fun w w' => Kp F w w')) (R := fun v' w' => PtR v10.heap.size b n p x.s h (En.mk h id (j : Int) ht z) q9 10 v' w') (J := fun _ w' => Ph 9 (fun w' => Below v10.heap.size v10 w' ∧ Ara w' I b p t gs cs room (.slice (some ⟨g, 0, none⟩) n c) mb L) (fun w' => PtPost w.heap.size I b p t gs cs room (.slice (some ⟨g, 0, none⟩) n c) mb L (En.mk h id (j : Int) ht z) q9 w') (listed.setIfInBounds 10 true) w') (fun w' _ => Kp.refl _ w') hC (qa_ rfl) (NN.qby_ rfl) (hinv.got 9 _ 97 rfl (hdep ⟨9, .data⟩ (by simp) rfl) rfl) (hI.keep hsz (by decide))
  ·have hsz : 11 < listed.size := by rw [hinv.size]; decide
   exact qd_ (C := (fun w' => Kp F v10 w')) (S := (fun w w' => Kp F w w')) (R := fun v' w' => PtR v10.heap.size b n p x.s h (En.mk h id (j : Int) ht z) q9 11 v' w') (J := fun _ w' => Ph 9 (fun w' => Below v10.heap.size v10 w' ∧ Ara w' I b p t gs cs room (.slice (some ⟨g, 0, none⟩) n c) mb L) (fun w' => PtPost w.heap.size I b p t gs cs room (.slice (some ⟨g, 0, none⟩) n c) mb L (En.mk h id (j : Int) ht z) q9 w') (listed.setIfInBounds 11 true) w') (fun w' _ => Kp.refl _ w') hC (qa_ rfl) (NN.qby_ rfl) rfl (hI.keep hsz (by decide))
  ·have hsz : 12 < listed.size := by rw [hinv.size]; decide
   exact qd_ (C := (fun w' => Kp F v10 w')) (S := (fun w w' => Kp F w w')) (R := fun v' w' => PtR v10.heap.size b n p x.s h (En.mk h id (j : Int) ht z) q9 12 v' w') (J := fun _ w' => Ph 9 (fun w' => Below v10.heap.size v10 w' ∧ Ara w' I b p t gs cs room (.slice (some ⟨g, 0, none⟩) n c) mb L) (fun w' => PtPost w.heap.size I b p t gs cs room (.slice (some ⟨g, 0, none⟩) n c) mb L (En.mk h id (j : Int) ht z) q9 w') (listed.setIfInBounds 12 true) w') (fun w' _ => Kp.refl _ w') hC (qa_ rfl) (NN.qby_ rfl) rfl (hI.keep hsz (by decide))
 intro listed a' v11 hall hinv
 have hC := hinv.c
 obtain ⟨I', v', s, hA11, hm⟩ := hinv.i.2 (hall 9 (by decide))
 have e6 : a'.eval (.tmp 6) = .int .i64 (n : Int) := hinv.got 10 _ 6 rfl (hall 10 (by decide)) rfl
 have e7 : a'.eval (.tmp 7) = .int .i64 0 := hinv.got 11 _ 7 rfl (hall 11 (by decide)) rfl
 have e8 : a'.eval (.tmp 8) = .int .i64 0 := hinv.got 12 _ 8 rfl (hall 12 (by decide)) rfl
 obtain ⟨u, hu⟩ : ∃ u : Nat → Value, ∀ t, u t = a'.eval (.tmp t) := ⟨_, fun _ => rfl⟩
 rw [qbh_ a' 98 u hinv.tsize hinv.defers hu]
 rw [← hu] at e6 e7 e8
 clear hu hinv hall
 show Exit.then _ _ _ (⟨#[u 0, u 1, u 2, u 3, u 4, u 5, u 6, u 7, u 8, u 9, u 10, u 11, u 12, u 13, u 14, u 15, u 16, u 17, u 18, u 19, u 20, u 21, u 22, u 23, u 24, u 25, u 26, u 27, u 28, u 29, u 30, u 31, u 32, u 33, u 34, u 35, u 36, u 37, u 38, u 39, u 40, u 41, u 42, u 43, u 44, u 45, u 46, u 47, u 48, u 49, u 50, u 51, u 52, u 53, u 54, u 55, u 56, u 57, u 58, u 59, u 60, u 61, u 62, u 63, u 64, u 65, u 66, u 67, u 68, u 69, u 70, u 71, u 72, u 73, u 74, u 75, u 76, u 77, u 78, u 79, u 80, u 81, u 82, u 83, u 84, u 85, u 86, u 87, u 88, u 89, u 90, u 91, u 92, u 93, u 94, u 95, u 96, u 97], []⟩ : Act) v11
 rw [e6, e7, e8]
 clear e6 e7 e8
 go_wp2_with fail
 go_ret3
 refine ⟨I', v', s, rfl, hA11, ?_, hm⟩
 rw [HFE.out]
 exact (Kp.of (F := F) hB10).trans hC (fun i hi _ => hi)
end Go.Proofs.YtkclahiiijfllaaGreatDoor.An
namespace Go.Proofs.YtkclahiiijfllaaGreatDoor.An
open Go.RowKit Mem Sc
open Ar (Ent Ru entZ Ok)
theorem qgp_ {w w' : World} {F : Nat → Prop} {b : Nat} {r : Ru} {M : List Ent} (h : ArS w F b r M) (hb : Below w.heap.size w w') : ArS w' (Nxt F w w') b r M :=
 (h.below hb).wide (fun _ hi => .inl hi) (nxt_lt h.1 hb.size)
theorem add_at {w : World} {F : Nat → Prop} {b : Nat} {r : Ru} {M : List Ent} (hA : ArS w F b r M) (hM : Ok r M) (hl : M.length ≤ 900) (hgl : r.gs.length ≤ 1000) (hcl : r.cs.length ≤ 1000) (hT : Tab w) (h : Hd) (ho : h.ok) (now : Int) :
  Calls Tryz.prog 11 #[.pointer (some ⟨b, 0, none⟩), .agg (hdA h), .int .i64 now] w fun e w' => e = .returned (.tuple #[.int .i64 (Ar.add r M h now).1.1, .int .i64 (Ar.add r M h now).1.2.1, .int .i64 (Ar.add r M h now).1.2.2]) ∧ ArS w' (Nxt F w w') b r (Ar.add r M h now).2 ∧ Kp F w w' := by
 have KG : ∀ g, decide h.P = g → Hid (∀ w', Below w.heap.size w w' → Calls Tryz.prog 34 #[.agg (hdA h)] w' fun e w'' => e = .returned (.bool g) ∧ Below w'.heap.size w' w'') := fun g hg => Lib.hid fun w' _ => by rw [← hg]; exact qfy_ h ho w'
 by_cases hP : h.P
 ·have KG1 := KG true (decide_eq_true hP)
  have KI : Hid (∀ w', Below w.heap.size w w' → Calls Tryz.prog 35 #[.agg (hdA h)] w' fun e w'' => e = .returned (.agg (bytesV h.id)) ∧ Below w'.heap.size w' w'') := Lib.hid fun w' hb => id_at h ho w' (hT.below hb)
  cases h1 : Ar.fnd r.g M h.id with
  | some i =>
   have ea : Ar.add r M h now = ((((i : Nat) : Int), (0 : Int), (0 : Int)), M) := by unfold Ar.add; rw [if_neg (fun hh => hh hP), h1]
   rw [ea]
   refine (qvi_ b h ho now w KG1 h.id (qz_ h) KI i (Lib.hid fun w' hb => ?_)).mono ?_
   ·have := qji_ (hA.below hb) h.id (qz_ h)
    rwa [h1] at this
   ·rintro e w' ⟨rfl, hb⟩
    exact ⟨rfl, qgp_ hA hb, Kp.of hb⟩
  | none =>
   have KF : Hid (∀ w', Below w.heap.size w w' → Calls Tryz.prog 15 #[.pointer (some ⟨b, 0, none⟩), .agg (bytesV h.id)] w' fun e w'' => e = .returned (.int .i64 (-1)) ∧ Below w'.heap.size w' w'') := Lib.hid fun w' hb => by
    have := qji_ (hA.below hb) h.id (qz_ h)
    rwa [h1] at this
   cases h2 : Ar.fnd r.g M h.prev with
   | none =>
    have ea : Ar.add r M h now = ((-1, 2, 5), M) := by unfold Ar.add; rw [if_neg (fun hh => hh hP), h1]; simp only [h2]
    rw [ea]
    refine (qaal_ b h ho now w KG1 h.id (qz_ h) KI KF (Lib.hid fun w' hb => ?_)).mono ?_
    ·have := qji_ (hA.below hb) h.prev ho.1
     rwa [h2] at this
    ·rintro e w' ⟨rfl, hb⟩
     exact ⟨rfl, qgp_ hA hb, Kp.of hb⟩
   | some j =>
    have KP : Hid (∀ w', Below w.heap.size w w' → Calls Tryz.prog 15 #[.pointer (some ⟨b, 0, none⟩), .agg (bytesV h.prev)] w' fun e w'' => e = .returned (.int .i64 (j : Int)) ∧ Below w'.heap.size w' w'') := Lib.hid fun w' hb => by
     have := qji_ (hA.below hb) h.prev ho.1
     rwa [h2] at this
    obtain ⟨d, hd, _⟩ := Ar.qks_ h2
    have hjl := (List.getElem?_eq_some_iff.1 hd).1
    have eD : M.getD j entZ = d := by rw [List.getD_eq_getElem?_getD, hd]; rfl
    have hA' := hA
    obtain ⟨hFl, I, p, t, v, mb, L, a1, a2, a3, a4⟩ := hA'
    obtain ⟨s, hs⟩ := a3.at hd
    obtain ⟨g, c, rfl, hg, hr⟩ := a1.range hs
    have hx := a1.good _ (List.mem_of_getElem? hs)
    have hLM := a3.length
    have HA : Hid (∀ w', Below w.heap.size w w' → Ara w' I b p t r.gs r.cs r.room (.slice (some ⟨g, 0, none⟩) L.length c) mb L) := Lib.hid fun w' hb => a1.below hb
    have HR : Hid (∀ w', Below w.heap.size w w' → w'.rangeAt g (j * 144) (bkC (enOf r d) s)) := Lib.hid fun w' hb => qax_ hr hb (by rw [qdt_ hx.1 hx.2]; omega)
    obtain ⟨c1, c2⟩ := hM.chain j d hd
    have q1 := way_h r.p r.g d.hs d.hs.length (Nat.le_refl _)
    have q2 := qzi_ r.p r.g d.hs d.hs.length (Nat.le_refl _)
    have q3 := way_ts r.p r.g d.hs d.hs.length (Nat.le_refl _)
    have KC : ∀ y, Ar.why r d h now = y → Hid (∀ w', Below w.heap.size w w' → Calls Tryz.prog 36 #[.agg (NN.prA p), .agg (spA s), .agg (hdA h), .int .i64 now] w' fun e w'' => e = .returned (.int .i64 y) ∧ Below w'.heap.size w' w'') := fun y hy => Lib.hid fun w' hb => by
     have hAw := HA.out w' hb
     have hsp := (hAw.spots _ (List.mem_of_getElem? hs)).now
     have := qzp_ p hAw.pok t hAw.tt r.gs r.cs hAw.gn hAw.cn (by rw [hAw.gn]; exact hgl) (by rw [hAw.cn]; exact hcl) s (Ar.spot r d) hsp.1 hsp.2.1 hsp.2.2.1 hsp.2.2.2.1 q2 (by rw [← hsp.2.2.1]; show (way r.p r.g d.hs d.hs.length).ts.length ≤ _; rw [q3]; omega) h ho now w' (hT.below hb) (hsp.2.2.2.2.2.wide (Nat.le_refl _) (Nat.le_refl _)) hAw.gates.now hAw.checks.now
     rw [quz_ a2] at this
     rw [← hy]
     exact this
    by_cases h3 : Ar.why r d h now = 0
    ·by_cases h4 : r.room ≤ M.length
     ·have ea : Ar.add r M h now = ((-1, 0, 6), M) := by unfold Ar.add; rw [if_neg (fun hh => hh hP), h1]; simp only [h2, eD]; rw [if_neg (fun hh => hh h3), if_pos h4]
      rw [ea]
      refine (qaao_ b h ho now w KG1 h.id (qz_ h) KI KF HA ⟨enOf r d, s, Ar.spot r d⟩ hx.1 hx.2 j (by rw [hLM]; exact hjl) HR KP (KC 0 h3) (by rw [hLM]; exact h4)).mono ?_
      rintro e w' ⟨rfl, hb⟩
      exact ⟨rfl, qgp_ hA hb, Kp.of hb⟩
     ·have ea : Ar.add r M h now = ((((M.length : Nat) : Int), (0 : Int), (0 : Int)), M ++ [⟨d.hs ++ [h], (j : Int)⟩]) := by unfold Ar.add; rw [if_neg (fun hh => hh hP), h1]; simp only [h2, eD]; rw [if_neg (fun hh => hh h3), if_neg h4]
      rw [ea]
      have hf : (L.map (·.e.id)).findIdx? (· == h.id) = none := by rw [a3.find]; exact h1
      have sx : s.x = (Ar.spot r d).x := ((a1.spots _ (List.mem_of_getElem? hs)).now).1
      refine (add_new b h ho now w KG1 h.id (qz_ h) KI KF HA ⟨enOf r d, s, Ar.spot r d⟩ hx.1 hx.2 j (by rw [hLM]; exact hjl) HR KP (KC 0 h3) (by rw [hLM]; exact h4) (NN.ofBits h.bits) (NN.Nm.cap (wkOf r d.hs + NN.ofBits h.bits)) (Lib.hid fun w' => NN.wbits h.bits w') (Lib.hid fun b' w' hL => NN.wsum2 _ _ (wkOf_lt r d.hs) (NN.qmh_ _) _ rfl b' w' hL) (bh r.p (Ar.spot r d) h) (qz_ h) (Lib.hid fun w' hb => ?_) (d.hs.length + 1 : Nat) (by show s.x.h = _; rw [sx]; exact q1) rfl (by rw [hLM]; exact hl) hf).mono ?_
      ·have hAw := HA.out w' hb
       have hsp := (hAw.spots _ (List.mem_of_getElem? hs)).now
       refine (qmd_ p hAw.pok s hx.2 (Ar.spot r d).ts hsp.2.2.1 hsp.2.2.2.1 (by rw [← hsp.2.2.1]; show (way r.p r.g d.hs d.hs.length).ts.length ≤ _; rw [q3]; omega) (by obtain ⟨b2, e⟩ := hsp.2.2.2.2.1; rw [e]; intro h; cases h) (by rw [sx]; show 0 ≤ (way r.p r.g d.hs d.hs.length).x.h; rw [q1]; omega) (by rw [sx]; show (way r.p r.g d.hs d.hs.length).x.h ≤ _; rw [q1]; omega) h ho w' (hT.below hb) (hsp.2.2.2.2.2.wide (Nat.le_refl _) (Nat.le_refl _))).mono ?_
       rintro r2 w2 ⟨b', c', rfl, g1, g2, g3⟩
       refine ⟨_, rfl, ⟨?_, rfl, rfl, g1, ⟨b', rfl⟩, g2⟩, g3⟩
       show bhx p s.x h = bhx r.p (Ar.spot r d).x h
       rw [sx]
       exact congrArg Ps.x (qaaa_ a2 (Ar.spot r d) h)
      ·rintro e w' ⟨I', v', s', rfl, g1, g2, g3⟩
       have hK : Kp F w w' := g2.mono fun i hi _ => a4 i (.inr hi)
       refine ⟨by rw [hLM], ⟨nxt_lt hFl hK.size, I', p, t, v', mb, _, g1, a2, ?_, fun i hi => ?_⟩, hK⟩
       ·have hp := a3.put ⟨d.hs ++ [h], (j : Int)⟩ s'
        have e1 : enOf r ⟨d.hs ++ [h], (j : Int)⟩ = ⟨h, h.id, (j : Int), ((d.hs.length + 1 : Nat) : Int), NN.Nm.cap (wkOf r d.hs + NN.ofBits h.bits)⟩ := by
         unfold enOf
         rw [Ar.h_app, qrp_]
         simp
        rw [e1, Ar.qut_] at hp
        exact hp
       ·rcases g3 i hi with hi2 | hi2
        ·exact .inl (a4 i hi2)
        ·exact .inr ⟨hi2, g1.mine_lt hi⟩
    ·have ea : Ar.add r M h now = ((-1, Ar.why r d h now, 8), M) := by unfold Ar.add; rw [if_neg (fun hh => hh hP), h1]; simp only [h2, eD]; rw [if_pos h3]
     rw [ea]
     refine (qvj_ b h ho now w KG1 h.id (qz_ h) KI KF HA ⟨enOf r d, s, Ar.spot r d⟩ hx.1 hx.2 j (by rw [hLM]; exact hjl) HR KP (Ar.why r d h now) (by simpa using h3) (KC _ rfl)).mono ?_
     rintro e w' ⟨rfl, hb⟩
     exact ⟨rfl, qgp_ hA hb, Kp.of hb⟩
 ·have ea : Ar.add r M h now = ((-1, 1, 8), M) := by unfold Ar.add; rw [if_pos hP]
  rw [ea]
  refine (add_bad b h ho now w (KG false (decide_eq_false hP))).mono ?_
  rintro e w' ⟨rfl, hb⟩
  exact ⟨rfl, qgp_ hA hb, Kp.of hb⟩
end Go.Proofs.YtkclahiiijfllaaGreatDoor.An
namespace Go.Proofs.YtkclahiiijfllaaGreatDoor.An
open Go.RowKit Mem Sc
theorem qvm_ (p : NN.Pr) (hz : (NN.prA p).size = 83) (t : Tl) (tt : p.tl = t.C) (ht : t.ok) (gs : List Gt) (cs : List Ck) (gn cn : Nat) (egn : t.gn = gn) (ecn : t.cn = cn) (hgn : gn = gs.length) (hcn : cn = cs.length) (hgl : gn ≤ 1000) (hcl : cn ≤ 1000) (b1 b2 g1 g2 gall : Bool) (hg1 : gUp (-1) gs = g1) (hg2 : cUp 0 cs = g2) (hall : (b1 && b2 && g1 && g2) = gall) (w : World) (hG : GatesAt w t.ga gs) (hC : ChecksAt w t.ca cs)
  (KP : Hid (∀ w', Calls Tryz.prog 41 #[.agg (NN.prA p)] w' fun e w'' => e = .returned (.bool b1) ∧ Below w'.heap.size w' w''))
  (KH : Hid (∀ w', Calls Tryz.prog 42 #[.agg (hdA t.g)] w' fun e w'' => e = .returned (.bool b2) ∧ Below w'.heap.size w' w'')) :
  Ca_ 17 #[.agg (NN.prA p)] w (.bool gall) := by
 have HNG := Lib.hid hgn
 have HNC := Lib.hid hcn
 have HAG := Lib.hid hG
 have HAC := Lib.hid hC
 have HVG := Lib.hid hg1
 have HVC := Lib.hid hg2
 have HALL := Lib.hid hall
 clear hgn hcn hG hC hg1 hg2 hall
 go_enter Tryz.func17, Tryz.ntmps17
 go_upto_region 1 with fail
 generalize hw0 : World.alloc _ _ = v0
 have hB : Below w.heap.size w v0 := bl_ hw0
 have hP : NN.PrAt v0 w.heap.size p := by rw [← hw0]; exact NN.Has.new _ _
 clear hw0
 obtain ⟨bP, hbP⟩ : ∃ x, x = w.heap.size := ⟨_, rfl⟩
 rw [← hbP] at hP ⊢
 clear hbP
 have gq := qj_ ht.2
 go_wp2_with (first | fail | (with_reducible refine NN.qh_ rfl _ rfl _ rfl hP hz ?_))
 refine (KP.out _).mono ?_
 rintro e v1 ⟨rfl, hb⟩
 replace hP := hP.on hb
 replace hB := hB.trans (hb.mono hB.size)
 clear hb
 cases b1
 ·have hv := HALL.out
  go_wp2_with fail
  go_ret
  exact ⟨by rw [← hv]; rfl, hB⟩
 have rg := pr_gen hP tt ht
 go_wp2_with (first | fail | (with_reducible refine qfi_ (by with_unfolding_all rfl) _ rfl bP 15 rfl t.g rg gq ?_))
 refine (KH.out _).mono ?_
 rintro e v2 ⟨rfl, hb⟩
 replace hP := hP.on hb
 replace hB := hB.trans (hb.mono hB.size)
 clear hb rg
 cases b2
 ·have hv := HALL.out
  go_wp2_with fail
  go_ret
  exact ⟨by rw [← hv]; rfl, hB⟩
 have c5 := qdr_ hP tt
 rw [egn] at c5
 generalize hga : t.ga = ga at *
 generalize t.gc = gc at *
 go_wp2_with fail
 clear c5
 go_loopw [3, 20] (fun m i wr => ∃ k : Nat, k ≤ gn ∧ i = .int .i64 (k : Int) ∧ ∃ z : Int, m = .int .i64 z ∧ Hid (gUp z (gs.drop k) = g1) ∧ NN.PrAt wr bP p ∧ Below w.heap.size w wr) (fun _ i _ => gn - (intOf i).toNat)
 case atStart => exact ⟨0, by omega, rfl, _, rfl, HVG, hP, hB⟩
 case round =>
  clear hP hB
  obtain ⟨k, hk, rfl, z, rfl, HZ, hP, hB⟩ := hrel
  by_cases hlt : k < gn
  ·obtain ⟨ab, ao, hae, habl, hc⟩ := (HAG.out.below hB) (by rw [← HNG.out]; omega)
   subst hae
   have hd : gs.drop k = gs.getD k gtZ :: gs.drop (k + 1) := by
    have hk2 : k < gs.length := by rw [← HNG.out]; exact hlt
    rw [List.drop_eq_getElem_cons hk2, List.getD_eq_getElem?_getD, List.getElem?_eq_getElem hk2]; rfl
   have q0 := hc k (by rw [← HNG.out]; omega)
   rw [show gs[k]'(by rw [← HNG.out]; omega) = gs.getD k gtZ by rw [List.getD_eq_getElem?_getD, List.getElem?_eq_getElem (by rw [← HNG.out]; omega)]; rfl] at q0
   have hx := HZ.out
   rw [hd] at hx
   clear hd HZ
   generalize gs.getD k gtZ = y at *
   have HX := Lib.hid hx
   clear hx hc
   have hnew := qjb_ wr
   have hb2 : Below wr.heap.size wr ((wr.alloc (.cells #[.int .i64 0, .int .i64 0] 77)).setRow wr.heap.size (gtA y)) := below_setRow ((Below.refl _ _).alloc (Nat.le_refl _) _) (Nat.le_refl _) _
   have hG : GtAt ((wr.alloc (.cells #[.int .i64 0, .int .i64 0] 77)).setRow wr.heap.size (gtA y)) wr.heap.size y := Has.row hnew _
   have hB2 := hB.trans (hb2.mono hB.size)
   have hP2 := NN.PrAt.on hP hb2
   have c0 := hG.c0
   clear hG hB hb2 hP
   cases t1 : decide (y.h ≤ z)
   ·have HZ2 : Hid (gUp y.h (gs.drop (k + 1)) = g1) := Lib.hid (by
     have := HX.out
     rw [show gUp z (y :: gs.drop (k + 1)) = (decide (z < y.h) && gUp y.h (gs.drop (k + 1))) from rfl, decide_eq_true (show z < y.h by have := of_decide_eq_false t1; omega), Bool.true_and] at this
     exact this)
    clear HX
    obtain ⟨yh, hyh⟩ : ∃ yh, yh = y.h := ⟨_, rfl⟩
    rw [← hyh] at c0 t1 HZ2
    clear hyh
    go_wp2_with (with_reducible first | refine qan_ rfl _ rfl ab (ao + k * 2) rfl y q0 ?_ | refine qbw_ rfl _ _ rfl _ y rfl rfl hnew ?_)
    go_roundw
    case rel => exact ⟨k + 1, by omega, by go_num, yh, rfl, HZ2, hP2, hB2⟩
    case measure => simp [intOf]; omega
   ·have hgf : g1 = false := by
     rw [← HX.out, show gUp z (y :: gs.drop (k + 1)) = (decide (z < y.h) && gUp y.h (gs.drop (k + 1))) from rfl, decide_eq_false (show ¬ z < y.h by have := of_decide_eq_true t1; omega), Bool.false_and]
    have hv := HALL.out
    rw [hgf] at hv
    clear HX
    go_wp2_with (with_reducible first | refine qan_ rfl _ rfl ab (ao + k * 2) rfl y q0 ?_ | refine qbw_ rfl _ _ rfl _ y rfl rfl hnew ?_)
    go_ret
    exact ⟨by rw [← hv]; simp, hB2⟩
  ·obtain rfl : k = gn := by omega
   have e : g1 = true := by
    have := HZ.out
    rw [HNG.out, List.drop_length] at this
    exact this.symm
   subst e
   have c6 := qcy_ hP tt
   rw [ecn] at c6
   generalize hca : t.ca = ca at *
   generalize t.cc = cc at *
   go_wp2_with fail
   clear c6
   have hB' := hB
   have hP' := hP
   go_loopw [3, 34] (fun m i wr => ∃ k : Nat, k ≤ cn ∧ i = .int .i64 (k : Int) ∧ ∃ z : Int, m = .int .i64 z ∧ Hid (cUp z (cs.drop k) = g2) ∧ NN.PrAt wr bP p ∧ Below w.heap.size w wr) (fun _ i _ => cn - (intOf i).toNat)
   case atStart => exact ⟨0, by omega, rfl, _, rfl, HVC, hP', hB'⟩
   case round =>
    clear hP' hB' hP hB
    obtain ⟨k, hk, rfl, z, rfl, HZ, hP, hB⟩ := hrel
    by_cases hlt : k < cn
    ·obtain ⟨ab, ao, hae, habl, hc⟩ := (HAC.out.below hB) (by rw [← HNC.out]; omega)
     subst hae
     have hd : cs.drop k = cs.getD k ckZ :: cs.drop (k + 1) := by
      have hk2 : k < cs.length := by rw [← HNC.out]; exact hlt
      rw [List.drop_eq_getElem_cons hk2, List.getD_eq_getElem?_getD, List.getElem?_eq_getElem hk2]; rfl
     have q0 := hc k (by rw [← HNC.out]; omega)
     rw [show cs[k]'(by rw [← HNC.out]; omega) = cs.getD k ckZ by rw [List.getD_eq_getElem?_getD, List.getElem?_eq_getElem (by rw [← HNC.out]; omega)]; rfl] at q0
     have hx := HZ.out
     rw [hd] at hx
     clear hd HZ
     generalize cs.getD k ckZ = y at *
     have HX := Lib.hid hx
     clear hx hc
     have z1 := qbt_ q0.1
     have z2 := qex_ q0.1
     have z0 := qex_ (c := ckZ) rfl
     have hnew := qjc_ wr
     have hb2 : Below wr.heap.size wr ((wr.alloc (.cells #[.int .i64 0, .int .u8 0, .int .u8 0, .int .u8 0, .int .u8 0, .int .u8 0, .int .u8 0, .int .u8 0, .int .u8 0, .int .u8 0, .int .u8 0, .int .u8 0, .int .u8 0, .int .u8 0, .int .u8 0, .int .u8 0, .int .u8 0, .int .u8 0, .int .u8 0, .int .u8 0, .int .u8 0, .int .u8 0, .int .u8 0, .int .u8 0, .int .u8 0, .int .u8 0, .int .u8 0, .int .u8 0, .int .u8 0, .int .u8 0, .int .u8 0, .int .u8 0, .int .u8 0] 98)).setRow wr.heap.size (ckA y)) := below_setRow ((Below.refl _ _).alloc (Nat.le_refl _) _) (Nat.le_refl _) _
     have hG : CkAt ((wr.alloc (.cells #[.int .i64 0, .int .u8 0, .int .u8 0, .int .u8 0, .int .u8 0, .int .u8 0, .int .u8 0, .int .u8 0, .int .u8 0, .int .u8 0, .int .u8 0, .int .u8 0, .int .u8 0, .int .u8 0, .int .u8 0, .int .u8 0, .int .u8 0, .int .u8 0, .int .u8 0, .int .u8 0, .int .u8 0, .int .u8 0, .int .u8 0, .int .u8 0, .int .u8 0, .int .u8 0, .int .u8 0, .int .u8 0, .int .u8 0, .int .u8 0, .int .u8 0, .int .u8 0, .int .u8 0] 98)).setRow wr.heap.size (ckA y)) wr.heap.size y := Has.row hnew _
     have hB2 := hB.trans (hb2.mono hB.size)
     have hP2 := NN.PrAt.on hP hb2
     have c0 := hG.c0
     clear hG hB hb2 hP
     cases t1 : decide (y.h ≤ z)
     ·have HZ2 : Hid (cUp y.h (cs.drop (k + 1)) = g2) := Lib.hid (by
       have := HX.out
       rw [show cUp z (y :: cs.drop (k + 1)) = (decide (z < y.h) && cUp y.h (cs.drop (k + 1))) from rfl, decide_eq_true (show z < y.h by have := of_decide_eq_false t1; omega), Bool.true_and] at this
       exact this)
      clear HX
      obtain ⟨yh, hyh⟩ : ∃ yh, yh = y.h := ⟨_, rfl⟩
      rw [← hyh] at c0 t1 HZ2
      clear hyh
      go_wp2_with (with_reducible first | refine qbf_ rfl _ rfl ab (ao + k * 33) rfl y q0.2 z1 ?_ | refine qcv_ rfl _ _ rfl _ y rfl rfl z2 hnew z0 ?_)
      go_roundw
      case rel => exact ⟨k + 1, by omega, by go_num, yh, rfl, HZ2, hP2, hB2⟩
      case measure => simp [intOf]; omega
     ·have hgf : g2 = false := by
       rw [← HX.out, show cUp z (y :: cs.drop (k + 1)) = (decide (z < y.h) && cUp y.h (cs.drop (k + 1))) from rfl, decide_eq_false (show ¬ z < y.h by have := of_decide_eq_true t1; omega), Bool.false_and]
      have hv := HALL.out
      rw [hgf] at hv
      clear HX
      go_wp2_with (with_reducible first | refine qbf_ rfl _ rfl ab (ao + k * 33) rfl y q0.2 z1 ?_ | refine qcv_ rfl _ _ rfl _ y rfl rfl z2 hnew z0 ?_)
      go_ret
      exact ⟨by rw [← hv]; simp, hB2⟩
    ·obtain rfl : k = cn := by omega
     have e : g2 = true := by
      have := HZ.out
      rw [HNC.out, List.drop_length] at this
      exact this.symm
     subst e
     have hv := HALL.out
     go_wp2_with fail
     go_ret
     exact ⟨by rw [← hv]; rfl, hB⟩
theorem qjl_ (p : NN.Pr) (hp : p.ok) (t : Tl) (tt : p.tl = t.C) (ht : t.ok) (gs : List Gt) (cs : List Ck) (hgn : t.gn = gs.length) (hcn : t.cn = cs.length) (hgl : t.gn ≤ 1000) (hcl : t.cn ≤ 1000) (w : World) (hG : GatesAt w t.ga gs) (hC : ChecksAt w t.ca cs) :
  Ca_ 17 #[.agg (NN.prA p)] w (.bool (ruleP p t.g gs cs)) :=
 qvm_ p (NN.qal_ hp) t tt ht gs cs t.gn t.cn rfl rfl hgn hcn hgl hcl _ _ _ _ _ rfl rfl rfl w hG hC (Lib.hid (NN.qek_ p)) (Lib.hid (qek_ t.g ht.2))
end Go.Proofs.YtkclahiiijfllaaGreatDoor.An
namespace Go.Proofs.YtkclahiiijfllaaGreatDoor.An
open Go.RowKit Mem Sc
open Ar (Ent Ru entZ Ok)
structure Cm where
 h : Hd
 now : Int
def cmC (c : Cm) : List Value := hdC c.h ++ [.int .i64 c.now]
def cmA (c : Cm) : Array Value := (cmC c).toArray
def cmZ : Cm := ⟨hdZ, 0⟩
theorem qes_ {c : Cm} (h : c.h.ok) : (cmC c).length = 69 := by simp [cmC, qj_ h]
theorem qfc_ {c : Cm} (h : c.h.ok) : (cmA c).size = 69 := by show (cmC c).toArray.size = 69; rw [List.size_toArray]; exact qes_ h
theorem cmC_one (c : Cm) : ∀ v ∈ cmC c, v.oneCell' = true := fun v hv => by
 rcases List.mem_append.1 hv with h | h
 ·exact qij_ _ v h
 ·obtain rfl : v = .int .i64 c.now := by simpa using h
  rfl
theorem cminfo : (Tryz.prog.info? 54).map (·.size) = some 69 := by kernel_rfl
def CmAt (w : World) (k : Nat) (c : Cm) : Prop := Has w k (cmA c) 54
def ComesAt (w : World) (a : Option Addr) (cs : List Cm) : Prop :=
 0 < cs.length → ∃ ab ao, a = some ⟨ab, ao, none⟩ ∧ ab < w.heap.size ∧ ∀ i (hi : i < cs.length), cs[i].h.ok ∧ w.rangeAt ab (ao + i * 69) (cmC cs[i])
theorem qwu_ (c : Cm) : 0 < (cmC c).length := by simp [cmC]
section
variable {w w' : World} {k : Nat} {c : Cm}
theorem ComesAt.below {a : Option Addr} {cs : List Cm} (h : ComesAt w a cs) (hb : Below w.heap.size w w') : ComesAt w' a cs := fun h0 => by
 obtain ⟨ab, ao, ha, hlt, hc⟩ := h h0
 exact ⟨ab, ao, ha, Nat.lt_of_lt_of_le hlt hb.size, fun i hi => ⟨(hc i hi).1, qax_ (hc i hi).2 hb (qwu_ _)⟩⟩
theorem CmAt.on (h : CmAt w k c) (hb : Below w.heap.size w w') : CmAt w' k c := qi_ hb h (Has.lt h)
theorem CmAt.head (h : CmAt w k c) : w.rangeAt k 0 (hdC c.h) := by
 have := qcg_ (A := []) (cs := hdC c.h) (C := [.int .i64 c.now]) (o := 0) (w := w) (b := k) (t := 54) h rfl
 exact this
theorem CmAt.now (h : CmAt w k c) (ho : c.h.ok) : w.cell? ⟨k, 68, none⟩ = some (.int .i64 c.now) := by
 have := qcg_ (A := hdC c.h) (cs := [.int .i64 c.now]) (C := []) (o := 68) (w := w) (b := k) (t := 54) (by rw [List.append_nil]; exact h) (qj_ ho)
 exact this 0 _ rfl
theorem qml_ (w : World) : CmAt (w.alloc (.cells Tryz.zeroCells54 54)) w.heap.size cmZ := Has.new (cmA cmZ) _
variable {ops : Array Oper} {rest : List Oper} {o : Oper} {a : Act} {Q : Exit → Act → World → Prop}
theorem qed_ (hgd : o.guard = none) (x : Operand) (ho : o.op = .load 54 x) (g off : Nat) (hx : a.eval x = .pointer (some ⟨g, off, none⟩)) (c : Cm) (hg : w.rangeAt g off (cmC c)) (hs : (cmC c).length = 69)
  (hk : wpList Tryz.prog ops Q rest (a.put o.dst (.agg (cmA c))) w) : wpList Tryz.prog ops Q (o :: rest) a w :=
 wpList_load_mid hgd 54 x ho g off hx (cmC c) _ hg Tryz.underlying54 rfl (cminfo.trans (by rw [hs])) hk
theorem qic_ (hgd : o.guard = none) (x y : Operand) (ho : o.op = .store 54 x y) (g : Nat) (cz : Array Value) (c' : Cm) (hx : a.eval x = .pointer (some ⟨g, 0, none⟩)) (hy : a.eval y = .agg cz) (he : cz = cmA c') (hs' : (cmA c').size = 69) (hg : CmAt w g c) (hs : (cmA c).size = 69)
  (hk : wpList Tryz.prog ops Q rest (a.put o.dst undef) (w.setRow g (cmA c'))) : wpList Tryz.prog ops Q (o :: rest) a w := by
 subst he
 exact wpList_store_row hgd 54 x y ho g (cmA c') hx hy 54 (cmA c) (Has.out hg) (cminfo.trans (by rw [hs'])) (by rw [hs, hs']) (all_oneCell_toArray (cmC_one c')) hk
theorem qrz_ (w : World) (c : Cm) : CmAt ((w.alloc (.cells Tryz.zeroCells54 54)).setRow w.heap.size (cmA c)) w.heap.size c := Has.row (qml_ w) _
end
def grt (t : Tl) (cs : List Cm) : Bool := cs.any (fun c => decide (c.now < 0)) || decide (20 < t.gn) || decide (20 < t.cn) || decide (40 < cs.length)
def neg (cs : List Cm) : Bool := cs.any (fun c => decide (c.now < 0))
theorem great_w (p : NN.Pr) (t : Tl) (tt : p.tl = t.C) (cs : List Cm) (n : Nat) (a : Option Addr) (c : Nat) (hn : n = cs.length) (hl : n ≤ 4611686018427387904) (gn cn : Nat) (eg : t.gn = gn) (ec : t.cn = cn) (g1 g2 g3 g : Bool) (h1 : decide ((20 : Int) < (gn : Int)) = g1) (h2 : decide ((20 : Int) < (cn : Int)) = g2) (h3 : decide ((40 : Int) < (n : Int)) = g3) (hg : (neg cs || g1 || g2 || g3) = g) (w : World) (hA : ComesAt w a cs) :
  Calls Tryz.prog 9 #[.agg (NN.prA p), .slice a n c] w fun r w' => r = .returned (.bool g) ∧ Below w.heap.size w w' := by
 have HN := Lib.hid hn
 have HA := Lib.hid hA
 have HG := Lib.hid hg
 clear hn hA hg
 go_enter Tryz.func9, Tryz.ntmps9
 go_upto_region 1 with fail
 generalize hw0 : World.alloc _ _ = v0
 have hB : Below w.heap.size w v0 := bl_ hw0
 have hP : NN.PrAt v0 w.heap.size p := by rw [← hw0]; exact NN.Has.new _ _
 clear hw0
 obtain ⟨bP, hbP⟩ : ∃ x, x = w.heap.size := ⟨_, rfl⟩
 rw [← hbP] at hP ⊢
 clear hbP
 have H1 := Lib.hid h1
 have H2 := Lib.hid h2
 have H3 := Lib.hid h3
 clear h1 h2 h3
 go_wp2_with fail
 go_loopw [9] (fun i wr => ∃ k : Nat, k ≤ n ∧ i = .int .i64 (k : Int) ∧ Hid (neg cs = neg (cs.drop k)) ∧ NN.PrAt wr bP p ∧ Below w.heap.size w wr) (fun i _ => n - (intOf i).toNat)
 case atStart => exact ⟨0, by omega, rfl, Lib.hid rfl, hP, hB⟩
 case round =>
  clear hP hB
  obtain ⟨k, hk, rfl, HZ, hP, hB⟩ := hrel
  by_cases hlt : k < n
  ·obtain ⟨ab, ao, hae, habl, hc⟩ := (HA.out.below hB) (by rw [← HN.out]; omega)
   subst hae
   have hk2 : k < cs.length := by rw [← HN.out]; exact hlt
   have hd : cs.drop k = cs[k] :: cs.drop (k + 1) := List.drop_eq_getElem_cons hk2
   obtain ⟨q0, q1⟩ := hc k hk2
   have hx := HZ.out
   rw [hd] at hx
   clear hd HZ hc
   generalize cs[k] = y at *
   have HX := Lib.hid hx
   clear hx hk2
   have z1 := qes_ q0
   have z2 := qfc_ q0
   have z0 := qfc_ (c := cmZ) hdZ_ok
   have hb2 : Below wr.heap.size wr ((wr.alloc (.cells Tryz.zeroCells54 54)).setRow wr.heap.size (cmA y)) := below_setRow ((Below.refl _ _).alloc (Nat.le_refl _) _) (Nat.le_refl _) _
   have hB2 := hB.trans (hb2.mono hB.size)
   have hP2 := NN.PrAt.on hP hb2
   have c0 := (qrz_ wr y).now q0
   have hnew := qml_ wr
   clear hB hb2 hP
   cases t1 : decide (y.now < 0)
   ·have HZ2 : Hid (neg cs = neg (cs.drop (k + 1))) := Lib.hid (by
     have e : neg (y :: cs.drop (k + 1)) = (decide (y.now < 0) || neg (cs.drop (k + 1))) := rfl
     rw [HX.out, e, t1, Bool.false_or])
    clear HX
    obtain ⟨yn, hyn⟩ : ∃ yn, yn = y.now := ⟨_, rfl⟩
    rw [← hyn] at c0 t1
    clear hyn
    go_wp2_with (with_reducible first | refine qed_ rfl _ rfl ab (ao + k * 69) rfl y q1 z1 ?_ | refine qic_ rfl _ _ rfl _ _ y rfl rfl rfl z2 hnew z0 ?_)
    go_roundw
    case rel => exact ⟨k + 1, by omega, by go_num, HZ2, hP2, hB2⟩
    case measure => simp [intOf]; omega
   ·have hgt : g = true := by
     have e : neg (y :: cs.drop (k + 1)) = (decide (y.now < 0) || neg (cs.drop (k + 1))) := rfl
     rw [← HG.out, HX.out, e, t1]
     simp
    subst hgt
    clear HX HG
    obtain ⟨yn, hyn⟩ : ∃ yn, yn = y.now := ⟨_, rfl⟩
    rw [← hyn] at c0 t1
    clear hyn
    go_wp2_with (with_reducible first | refine qed_ rfl _ rfl ab (ao + k * 69) rfl y q1 z1 ?_ | refine qic_ rfl _ _ rfl _ _ y rfl rfl rfl z2 hnew z0 ?_)
    go_ret
    exact ⟨rfl, hB2⟩
  ·obtain rfl : k = n := by omega
   have hg : (g1 || g2 || g3) = g := by
    have := HG.out
    rw [HZ.out, HN.out, List.drop_length] at this
    exact this
   have h1 := H1.out
   have h2 := H2.out
   have h3 := H3.out
   clear HG HZ
   have c5 := qdr_ hP tt
   have c6 := qcy_ hP tt
   rw [eg] at c5
   rw [ec] at c6
   generalize t.ga = ga at *
   generalize t.gc = gc at *
   generalize t.ca = ca at *
   generalize t.cc = cc at *
   have HGG := Lib.hid hg
   clear hP eg ec hg H1 H2 H3
   cases g1
   ·cases g2
    ·cases g3
     all_goals
      go_wp2_with fail
      go_ret
      exact ⟨by rw [← HGG.out]; rfl, hB⟩
    ·go_wp2_with fail
     go_ret
     exact ⟨by rw [← HGG.out]; rfl, hB⟩
   ·go_wp2_with fail
    go_ret
    exact ⟨by rw [← HGG.out]; rfl, hB⟩
theorem grt_at (p : NN.Pr) (t : Tl) (tt : p.tl = t.C) (cs : List Cm) (n : Nat) (a : Option Addr) (c : Nat) (hn : n = cs.length) (hl : n ≤ 4611686018427387904) (g : Bool) (hg : grt t cs = g) (w : World) (hA : ComesAt w a cs) :
  Calls Tryz.prog 9 #[.agg (NN.prA p), .slice a n c] w fun r w' => r = .returned (.bool g) ∧ Below w.heap.size w w' := by
 refine great_w p t tt cs n a c hn hl t.gn t.cn rfl rfl _ _ _ g rfl rfl rfl ?_ w hA
 rw [← hg, hn]
 unfold grt neg
 congr 1
 ·congr 1
  ·congr 1
   exact decide_eq_decide.2 (by omega)
  ·exact decide_eq_decide.2 (by omega)
 ·exact decide_eq_decide.2 (by omega)
theorem qvn_ {w : World} {ops : Array Oper} {rest : List Oper} {o : Oper} {a : Act} {Q : Exit → Act → World → Prop} (hgd : o.guard = none) (ho : o.op = .build 32 #[(0, .const (.int .i64 545259519)), (1, .const (.int .i64 4)), (2, .const (.int .i64 10))])
  (hk : wpList Tryz.prog ops Q rest (a.put o.dst (.agg (NN.prA NN.prL))) w) : wpList Tryz.prog ops Q (o :: rest) a w := NN.qyq_ hgd ho hk
theorem alive_w (id : List UInt8) (w : World)
  (KN : Hid (Calls Tryz.prog 10 #[.agg (NN.prA NN.prL), .int .i64 5] w fun r w' => ∃ b, r = .returned (.tuple #[.pointer (some ⟨b, 0, none⟩), .int .i64 0]) ∧ (∀ w2, Below w'.heap.size w' w2 → Calls Tryz.prog 13 #[.pointer (some ⟨b, 0, none⟩)] w2 fun e w3 => e = .returned (.int .i64 1) ∧ Below w2.heap.size w2 w3) ∧ (∀ w2, Below w'.heap.size w' w2 → Calls Tryz.prog 14 #[.pointer (some ⟨b, 0, none⟩)] w2 fun e w3 => e = .returned (.int .i64 5) ∧ Below w2.heap.size w2 w3) ∧ (∀ w2, Below w'.heap.size w' w2 → Calls Tryz.prog 15 #[.pointer (some ⟨b, 0, none⟩), .agg (bytesV id)] w2 fun e w3 => e = .returned (.int .i64 0) ∧ Below w2.heap.size w2 w3) ∧ Below w.heap.size w w'))
  (KI : Hid (∀ w', Calls Tryz.prog 29 #[.agg (hdA hdZ)] w' fun e w'' => e = .returned (.agg (bytesV id)) ∧ Below w'.heap.size w' w'')) :
  Ca_ 8 #[] w (.bool true) := by
 go_enter Tryz.func8, Tryz.ntmps8
 go_wp2_with (with_reducible refine qvn_ rfl rfl ?_)
 refine KN.out.mono ?_
 rintro e v1 ⟨b, rfl, K1, K2, K3, hB⟩
 have H1 := Lib.hid K1
 have H2 := Lib.hid K2
 have H3 := Lib.hid K3
 clear K1 K2 K3
 go_wp2_with fail
 refine (H1.out _ (Below.refl _ _)).mono ?_
 rintro e v2 ⟨rfl, hb⟩
 replace hB := hB.trans (hb.mono hB.size)
 go_wp2_with fail
 refine (H2.out _ hb).mono ?_
 rintro e v3 ⟨rfl, hb3⟩
 replace hb := hb.trans (hb3.mono hb.size)
 replace hB := hB.trans (hb3.mono hB.size)
 clear hb3
 go_wp2_with fail
 refine (KI.out _).mono ?_
 rintro e v4 ⟨rfl, hb3⟩
 replace hb := hb.trans (hb3.mono hb.size)
 replace hB := hB.trans (hb3.mono hB.size)
 clear hb3
 go_wp2_with fail
 refine (H3.out _ hb).mono ?_
 rintro e v5 ⟨rfl, hb3⟩
 replace hB := hB.trans (hb3.mono hB.size)
 go_wp2_with fail
 go_ret
 exact ⟨rfl, hB⟩
theorem qvo_ (g : Hd) : Ar.fnd g [entZ] g.id = some 0 := by
 unfold Ar.fnd
 rw [List.findIdx?_cons, show entZ.h g = g from rfl, beq_self_eq_true]
 rfl
theorem alive12 (w : World) (hT : Tab w) : Ca_ 8 #[] w (.bool true) := by
 refine alive_w hdZ.id w ?_ (Lib.hid fun w' => rid_at hdZ hdZ_ok w')
 refine Lib.hid ((new_at NN.prL (NN.tlZ_ok _ _ _ _ _) (NN.tlZ_one _ _ _ _ _) tlN tlN_is tlN_ok [] [] rfl rfl (Nat.zero_le _) (Nat.zero_le _) 5 (by decide +kernel) w hT (fun h => by simp at h) (fun h => by simp at h)).mono ?_)
 rintro r w' ⟨b, F, rfl, hA, _, hb⟩
 refine ⟨b, rfl, fun w2 h2 => len_at (hA.below h2), fun w2 h2 => room_at (hA.below h2), fun w2 h2 => ?_, hb⟩
 refine (qji_ (hA.below h2) hdZ.id (qz_ _)).mono ?_
 rintro e w3 ⟨rfl, hb3⟩
 exact ⟨by show Ending.returned (.int .i64 (plc (Ar.fnd hdZ [entZ] hdZ.id))) = _; rw [qvo_]; rfl, hb3⟩
end Go.Proofs.YtkclahiiijfllaaGreatDoor.An
namespace Go.Proofs.YtkclahiiijfllaaGreatDoor.An
open Go.RowKit Mem Sc
open Ar (Ent Ru entZ Ok)
section
variable {w : World} {k : Nat} {e : En}
theorem EnAt.head (h : EnAt w k e) : w.rangeAt k 0 (hdC e.h) := by
 have := qcg_ (A := []) (cs := hdC e.h) (C := Lib.byteCells e.id ++ (.int .i64 e.up :: .int .i64 e.ht :: (NN.numC e.wk).toList)) (o := 0) (w := w) (b := k) (t := 44) h rfl
 exact this
theorem EnAt.tail (h : EnAt w k e) (ho : e.ok) : w.rangeAt k 100 (.int .i64 e.up :: .int .i64 e.ht :: (NN.numC e.wk).toList) := by
 have := qcg_ (A := hdC e.h ++ Lib.byteCells e.id) (cs := .int .i64 e.up :: .int .i64 e.ht :: (NN.numC e.wk).toList) (C := []) (o := 100) (w := w) (b := k) (t := 44) (by rw [List.append_nil, List.append_assoc]; exact h) (by simp [qj_ ho.1, qg_ ho.2])
 exact this
theorem EnAt.up (h : EnAt w k e) (ho : e.ok) {z : Int} (hz : Hid (e.up = z)) : w.cell? ⟨k, 100, none⟩ = some (.int .i64 z) := by rw [← hz.out]; exact h.tail ho 0 _ rfl
theorem EnAt.ht (h : EnAt w k e) (ho : e.ok) {z : Int} (hz : Hid (e.ht = z)) : w.cell? ⟨k, 101, none⟩ = some (.int .i64 z) := by rw [← hz.out]; exact h.tail ho 1 _ rfl
theorem qmm_ (w : World) (e : En) : EnAt ((w.alloc (.cells Tryz.zeroCells44 44)).setRow w.heap.size (enA e)) w.heap.size e := Has.row (qhn_ w) _
end
theorem qid_ (w : World) (T : TypeId) (z cs : Array Value) : Below w.heap.size w ((w.alloc (.cells z T)).setRow w.heap.size cs) := below_setRow ((Below.refl _ _).alloc (Nat.le_refl _) _) (Nat.le_refl _) _
theorem add_len (r : Ru) (M : List Ent) (h : Hd) (now : Int) : (Ar.add r M h now).2.length ≤ M.length + 1 := by
 unfold Ar.add
 repeat' split
 all_goals simp
end Go.Proofs.YtkclahiiijfllaaGreatDoor.An
namespace Go.Proofs.YtkclahiiijfllaaGreatDoor.An
open Go.RowKit Mem Sc
theorem qaap_ : Tryz.prog.eqGuardType Tryz.prog.depth 44 = false := by kernel_rfl
theorem hd_self (a : Hd) (ha : a.ok) (d : Nat) (w : World) : (Op.equalIn (d + 4) 30 (.agg (hdA a)) (.agg (hdA a))).run Tryz.prog w = .ok true w := by
 have hS : Tryz.prog.underlying 30 = some (.struct (Tryz.prog.fieldsOf 30)) := by kernel_rfl
 rw [show d + 4 = (d + 3) + 1 from rfl, run_equalIn_agg w (d + 3) 30 _ _ hS (by kernel_rfl)]
 simp only [Program.fieldsOf, Tryz.underlying30]
 have pa0 := qba_ (hdA a) 0 (.int .i64 a.v) rfl
 have pa1 := qct_ (hdA a) 1 a.prev (qph_ a ha)
 have pa2 := qct_ (hdA a) 33 a.root (qpi_ a ha)
 have pa3 := qba_ (hdA a) 65 (.int .i64 a.time) (qem_ a ha 0)
 have pa4 := qba_ (hdA a) 66 (.int .i64 a.bits) (qem_ a ha 1)
 have pa5 := qba_ (hdA a) 67 (.int .i64 a.nonce) (qem_ a ha 2)
 have q1 := qhf_ a.prev a.prev ha.1 ha.1 (d + 1)
 have q2 := qhf_ a.root a.root ha.2 ha.2 (d + 1)
 have q0 := fun x y => eq_int x y (d + 2)
 simp only [Op.eqFields, ne_eq, String.reduceEq, not_false_eq_true, if_true, Sem.run_bind, Sem.run_ite, Sem.run_pure, Result.andThen_ok, pa0, pa1, pa2, pa3, pa4, pa5, q0, q1, q2, beq_self_eq_true, Bool.not_true, Bool.false_eq_true, if_false]
theorem part_hd (cs : Array Value) (o : Nat) (h : Hd) (e : cs.extract o (o + 68) = hdA h) (w : World) : (part 30 cs o).run Tryz.prog w = .ok (.agg (hdA h)) w := by
 simp [part, e]
theorem qaaq_ (cs : Array Value) (o n : Nat) (e : cs.extract o (o + 4) = NN.numC n) (w : World) : (part 26 cs o).run Tryz.prog w = .ok (.agg (NN.numC n)) w := by
 simp [part, e]
theorem qsa_ (e : En) (A X C : List Value) (o k : Nat) (h : enC e = A ++ (X ++ C)) (hA : A.length = o) (hX : X.length = k) : (enA e).extract o (o + k) = X.toArray := by
 apply Array.toList_inj.1
 rw [Array.toList_extract]
 show ((enC e).drop o).take (o + k - o) = X
 rw [h, List.drop_left' hA, show o + k - o = k by omega, List.take_left' hX]
theorem en_self (e : En) (he : e.ok) (w : World) : (Op.equalIn 10000 44 (.agg (enA e)) (.agg (enA e))).run Tryz.prog w = .ok true w := by
 have hS : Tryz.prog.underlying 44 = some (.struct (Tryz.prog.fieldsOf 44)) := by kernel_rfl
 rw [show (10000 : Nat) = 9999 + 1 from rfl, run_equalIn_agg w 9999 44 _ _ hS (by kernel_rfl)]
 simp only [Program.fieldsOf, Tryz.underlying44]
 have l0 := qj_ he.1
 have l1 := qg_ he.2
 have p0 := part_hd (enA e) 0 e.h (qsa_ e [] (hdC e.h) _ 0 68 rfl rfl l0)
 have p1 := qct_ (enA e) 68 e.id ((qsa_ e (hdC e.h) (Lib.byteCells e.id) _ 68 32 rfl l0 l1).trans (by rw [← qac_]))
 have c2 : (enA e)[100]? = some (.int .i64 e.up) := by
  show (enC e).toArray[100]? = _
  rw [List.getElem?_toArray]
  unfold enC
  rw [List.getElem?_append_right (by omega), List.getElem?_append_right (by omega), l0, l1]
  rfl
 have c3 : (enA e)[101]? = some (.int .i64 e.ht) := by
  show (enC e).toArray[101]? = _
  rw [List.getElem?_toArray]
  unfold enC
  rw [List.getElem?_append_right (by omega), List.getElem?_append_right (by omega), l0, l1]
  rfl
 have p2 := qba_ (enA e) 100 _ c2
 have p3 := qba_ (enA e) 101 _ c3
 have p4 := qaaq_ (enA e) 102 e.wk ((qsa_ e (hdC e.h ++ (Lib.byteCells e.id ++ [.int .i64 e.up, .int .i64 e.ht])) (NN.numC e.wk).toList [] 102 4 (by unfold enC; simp) (by simp [l0, l1]) (by simp [NN.qch_])).trans (by simp))
 have q0 := hd_self e.h he.1 9995
 have q1 := qhf_ e.id e.id he.2 he.2 9997
 have q2 := fun x y => eq_int x y 9998
 have q4 := fun w => NN.qdj_ (P := Tryz.prog) w 9997 .u64 26 24 4 Tryz.underlying26 Tryz.underlying24 NN.wordSize (NN.wds e.wk) (NN.wds e.wk) rfl rfl
 have q5 : ∀ w, (Op.equalIn 9999 26 (.agg (NN.numC e.wk)) (.agg (NN.numC e.wk))).run Tryz.prog w = .ok true w := fun w => by
  rw [NN.qka_]
  exact (q4 w).trans (by simp)
 simp only [Op.eqFields, ne_eq, String.reduceEq, not_false_eq_true, if_true, Sem.run_bind, Sem.run_ite, Sem.run_pure, Result.andThen_ok, p0, p1, p2, p3, p4, q0, q1, q2, q5, beq_self_eq_true, Bool.not_true, Bool.false_eq_true, if_false]
theorem en_neq (e : En) (he : e.ok) (w : World) : (binOp .neq 44 (.agg (enA e)) (.agg (enA e))).run Tryz.prog w = .ok (.bool false) w := by
 rw [run_neq_struct, en_self e he]; rfl
theorem enneq_f {ops : Array Oper} {rest : List Oper} {o : Oper} {a : Act} {w : World} {Q : Exit → Act → World → Prop} (hgd : o.guard = none) (t' : TypeId) (x y : Operand) (ho : o.op = .binOp .neq 44 x y t') (xs ys : Array Value) (v : Value) (hx : a.eval x = .agg xs) (hy : a.eval y = .agg ys)
  (hq : ∀ w, (binOp .neq 44 (.agg xs) (.agg ys)).run Tryz.prog w = .ok v w) (h : wpList Tryz.prog ops Q rest (a.put o.dst v) w) : wpList Tryz.prog ops Q (o :: rest) a w :=
 wpList_plain hgd fun _ hK => by
  unfold Oper.wp execOp
  simp only [ho, hx, hy, Sem.run_bind, Sem.run_pure, run_eqGuard_agg w .neq 44 x y xs ys qaap_, Result.andThen_ok, hq]
  exact hK _ _ h
end Go.Proofs.YtkclahiiijfllaaGreatDoor.An
