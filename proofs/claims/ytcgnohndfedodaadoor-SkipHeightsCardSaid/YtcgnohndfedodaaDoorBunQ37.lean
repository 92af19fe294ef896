/-
  Texts of this seat, one behind the other.
-/
import Derived.Test.YtcgnohndfedodaaDoorZAnMap
import Derived.Test.YtcgnohndfedodaaDoorBunQ34
import Derived.Test.YtcgnohndfedodaaDoorBunQ36
import Derived.Test.YtcgnohndfedodaaDoorBunQ31
import Derived.Test.YtcgnohndfedodaaDoorBunQ23
import Derived.Test.YtcgnohndfedodaaDoorBunQ20
/-
  An arena in memory: entries, blocks, the arena itself.
-/
namespace Go.Proofs.YtcgnohndfedodaaDoor.An
open Go.RowKit Mem Sc
open Ar (Ent Ru entZ)
structure En where
  h : Hd
  id : List UInt8
  up : Int
  ht : Int
  wk : Nat
def En.ok (e : En) : Prop := e.h.ok ∧ e.id.length = 32
def enC (e : En) : List Value := hdC e.h ++ (Lib.byteCells e.id ++ (.int .i64 e.up :: .int .i64 e.ht :: (NN.numC e.wk).toList))
def enA (e : En) : Array Value := (enC e).toArray
def enZ : En := ⟨hdZ, z32, 0, 0, 0⟩
def enN : En := ⟨hdZ, z32, -1, 0, 0⟩
theorem enC_length {e : En} (h : e.ok) : (enC e).length = 106 := by
  simp only [enC, List.length_append, hdC_length h.1, byteCells_32 h.2, List.length_cons, Array.length_toList, NN.numC_size]
theorem enA_size {e : En} (h : e.ok) : (enA e).size = 106 := by show (enC e).toArray.size = 106; rw [List.size_toArray]; exact enC_length h
theorem num_one (n : Nat) : ∀ v ∈ (NN.numC n).toList, v.oneCell' = true := fun v hv => by
  have := NN.numC_one n
  rw [Array.all_eq_true_iff_forall_mem] at this
  exact this v (by simpa using hv)
theorem enC_one (e : En) : ∀ v ∈ enC e, v.oneCell' = true := by
  intro v hv
  simp only [enC, List.mem_cons, List.mem_append] at hv
  rcases hv with hv | hv | rfl | rfl | hv
  · exact hdC_one _ v hv
  · exact Lib.byteCells_one _ v hv
  · rfl
  · rfl
  · exact num_one _ v hv
theorem enA_one (e : En) : (enA e).all (·.oneCell') = true := all_oneCell_toArray (enC_one e)
theorem eninfo : (Tryd.prog.info? 50).map (·.size) = some 106 := by kernel_rfl
theorem enZ_ok : enZ.ok := ⟨hdZ_ok, rfl⟩
theorem enN_ok : enN.ok := ⟨hdZ_ok, rfl⟩
def EnAt (w : World) (k : Nat) (e : En) : Prop := Has w k (enA e) 50
def bkC (e : En) (s : Sp) : List Value := enC e ++ spC s
theorem bkC_length {e : En} {s : Sp} (h : e.ok) (hs : s.ok) : (bkC e s).length = 144 := by simp only [bkC, List.length_append, enC_length h, spC_length hs]
theorem bkC_one (e : En) (s : Sp) : ∀ v ∈ bkC e s, v.oneCell' = true := fun v hv => by
  rcases List.mem_append.1 hv with h | h
  · exact enC_one e v h
  · exact spC_one s v h
def arC (p : NN.Pr) (room : Nat) (v : Value) (mb : Nat) : List Value := NN.prC p ++ [.int .i64 (room : Int), v, .map (some mb)]
def arA (p : NN.Pr) (room : Nat) (v : Value) (mb : Nat) : Array Value := (arC p room v mb).toArray
theorem prC_length {p : NN.Pr} (h : p.ok) : (NN.prC p).length = 83 := by
  have := NN.prA_size h
  unfold NN.prA at this
  simpa using this
theorem arC_length {p : NN.Pr} (h : p.ok) (room v mb) : (arC p room v mb).length = 86 := by simp [arC, prC_length h]
theorem arinfo : (Tryd.prog.info? 58).map (·.size) = some 86 := by kernel_rfl
theorem bkinfo : (Tryd.prog.info? 76).map (·.size) = some 144 := by kernel_rfl
/-! ### what is built -/
theorem byteCells_z : (Lib.byteCells z32).length = 32 := rfl
theorem built_en (parts : List (Nat × Value)) : Tryd.prog.built 50 parts = Instr.fill ((#[(0, 68), (68, 32), (100, 1), (101, 1), (102, 4)] : Array (Nat × Nat))[·]?) (enA enZ) parts := by kernel_rfl
theorem built_entry (e : En) (h : e.ok) : Tryd.prog.built 50 [(0, .agg (hdA e.h)), (1, .agg (bytesV e.id)), (2, Value.int .i64 e.up), (3, Value.int .i64 e.ht), (4, .agg (NN.numC e.wk))] = some (enA e) := by
  rw [built_en]
  have h0 := hdC_length h.1
  have h1 := byteCells_32 h.2
  have z0 := hdC_length hdZ_ok
  have z1 := byteCells_z
  unfold enA enC
  rw [show hdC enZ.h ++ (Lib.byteCells enZ.id ++ (Value.int .i64 enZ.up :: Value.int .i64 enZ.ht :: (NN.numC enZ.wk).toList)) = [] ++ (hdC hdZ ++ (Lib.byteCells z32 ++ (Value.int .i64 0 :: Value.int .i64 0 :: (NN.numC 0).toList))) from rfl,
    fill_step (off := 0) (n := 68) [] (hdC hdZ) _ (hdC e.h) rfl rfl z0 rfl h0, List.nil_append,
    fill_step (off := 68) (n := 32) (hdC e.h) (Lib.byteCells z32) _ (Lib.byteCells e.id) rfl h0 z1 (bytesV_list e.id ▸ rfl) h1,
    show hdC e.h ++ (Lib.byteCells e.id ++ (Value.int .i64 0 :: Value.int .i64 0 :: (NN.numC 0).toList)) = (hdC e.h ++ Lib.byteCells e.id) ++ ([Value.int .i64 0] ++ ([Value.int .i64 0] ++ (NN.numC 0).toList)) by simp,
    fill_step (off := 100) (n := 1) (hdC e.h ++ Lib.byteCells e.id) [Value.int .i64 0] _ [Value.int .i64 e.up] rfl (by simp [h0, h1]) rfl rfl rfl,
    show (hdC e.h ++ Lib.byteCells e.id) ++ ([Value.int .i64 e.up] ++ ([Value.int .i64 0] ++ (NN.numC 0).toList)) = (hdC e.h ++ Lib.byteCells e.id ++ [Value.int .i64 e.up]) ++ ([Value.int .i64 0] ++ (NN.numC 0).toList) by simp,
    fill_step (off := 101) (n := 1) (hdC e.h ++ Lib.byteCells e.id ++ [Value.int .i64 e.up]) [Value.int .i64 0] _ [Value.int .i64 e.ht] rfl (by simp [h0, h1]) rfl rfl rfl,
    show (hdC e.h ++ Lib.byteCells e.id ++ [Value.int .i64 e.up]) ++ ([Value.int .i64 e.ht] ++ (NN.numC 0).toList) = (hdC e.h ++ Lib.byteCells e.id ++ [Value.int .i64 e.up, Value.int .i64 e.ht]) ++ ((NN.numC 0).toList ++ []) by simp,
    fill_step (off := 102) (n := 4) (hdC e.h ++ Lib.byteCells e.id ++ [Value.int .i64 e.up, Value.int .i64 e.ht]) (NN.numC 0).toList [] (NN.numC e.wk).toList rfl (by simp [h0, h1]) rfl (by simp [Value.cells]) rfl, fill_nil]
  simp
theorem built_gen (e : En) (h : e.ok) (h0 : e.ht = 0) : Tryd.prog.built 50 [(0, .agg (hdA e.h)), (1, .agg (bytesV e.id)), (2, Value.int .i64 e.up), (4, .agg (NN.numC e.wk))] = some (enA e) := by
  have hh := built_entry e h
  rw [built_en] at hh ⊢
  rw [← hh, h0]
  have e0 := hdC_length h.1
  have e1 := byteCells_32 h.2
  have z0 := hdC_length hdZ_ok
  have z1 := byteCells_z
  have st : ∀ rest, Instr.fill ((#[(0, 68), (68, 32), (100, 1), (101, 1), (102, 4)] : Array (Nat × Nat))[·]?) (enA enZ) ((0, .agg (hdA e.h)) :: (1, .agg (bytesV e.id)) :: (2, Value.int .i64 e.up) :: rest) = Instr.fill ((#[(0, 68), (68, 32), (100, 1), (101, 1), (102, 4)] : Array (Nat × Nat))[·]?) (hdC e.h ++ (Lib.byteCells e.id ++ ([Value.int .i64 e.up] ++ ([Value.int .i64 0] ++ (NN.numC 0).toList)))).toArray rest := fun rest => by
    unfold enA enC
    rw [show hdC enZ.h ++ (Lib.byteCells enZ.id ++ (Value.int .i64 enZ.up :: Value.int .i64 enZ.ht :: (NN.numC enZ.wk).toList)) = [] ++ (hdC hdZ ++ (Lib.byteCells z32 ++ (Value.int .i64 0 :: Value.int .i64 0 :: (NN.numC 0).toList))) from rfl,
      fill_step (off := 0) (n := 68) [] (hdC hdZ) _ (hdC e.h) rfl rfl z0 rfl e0, List.nil_append,
      fill_step (off := 68) (n := 32) (hdC e.h) (Lib.byteCells z32) _ (Lib.byteCells e.id) rfl e0 z1 (bytesV_list e.id ▸ rfl) e1,
      show hdC e.h ++ (Lib.byteCells e.id ++ (Value.int .i64 0 :: Value.int .i64 0 :: (NN.numC 0).toList)) = (hdC e.h ++ Lib.byteCells e.id) ++ ([Value.int .i64 0] ++ ([Value.int .i64 0] ++ (NN.numC 0).toList)) by simp,
      fill_step (off := 100) (n := 1) (hdC e.h ++ Lib.byteCells e.id) [Value.int .i64 0] _ [Value.int .i64 e.up] rfl (by simp [e0, e1]) rfl rfl rfl]
    simp
  rw [st, st]
  rw [show hdC e.h ++ (Lib.byteCells e.id ++ ([Value.int .i64 e.up] ++ ([Value.int .i64 0] ++ (NN.numC 0).toList))) = (hdC e.h ++ Lib.byteCells e.id ++ [Value.int .i64 e.up]) ++ ([Value.int .i64 0] ++ (NN.numC 0).toList) by simp,
    fill_step (i := 3) (off := 101) (n := 1) (hdC e.h ++ Lib.byteCells e.id ++ [Value.int .i64 e.up]) [Value.int .i64 0] _ [Value.int .i64 0] rfl (by simp [e0, e1]) rfl rfl rfl]
theorem built_none : Tryd.prog.built 50 [(2, Value.int .i64 (-1))] = some (enA enN) := by kernel_rfl
def enV (e : En) : Value := .agg (enA e)
theorem built_bk (parts : List (Nat × Value)) : Tryd.prog.built 76 parts = Instr.fill ((#[(0, 106), (106, 38)] : Array (Nat × Nat))[·]?) (bkC enZ spZ).toArray parts := by kernel_rfl
theorem built_block (e : En) (s : Sp) (h : e.ok) (hs : s.ok) : Tryd.prog.built 76 [(0, .agg (enA e)), (1, .agg (spA s))] = some (bkC e s).toArray := by
  rw [built_bk]
  have h0 := enC_length h
  have h1 := spC_length hs
  unfold bkC
  rw [show enC enZ ++ spC spZ = [] ++ (enC enZ ++ spC spZ) from rfl,
    fill_step (off := 0) (n := 106) [] (enC enZ) _ (enC e) rfl rfl (enC_length enZ_ok) rfl h0,
    show [] ++ (enC e ++ spC spZ) = enC e ++ (spC spZ ++ []) by simp,
    fill_step (off := 106) (n := 38) (enC e) (spC spZ) [] (spC s) rfl h0 (spC_length spZ_ok) rfl h1, fill_nil]
  simp
def prZ : NN.Pr := ⟨0, 0, 0, 0, false, Value.slice none 0 0 :: Value.slice none 0 0 :: ((NN.numC 0).toList ++ ((NN.numC 0).toList ++ hdC hdZ))⟩
theorem prZ_ok : prZ.ok := rfl
theorem built_ar (parts : List (Nat × Value)) : Tryd.prog.built 58 parts = Instr.fill ((#[(0, 83), (83, 1), (84, 1), (85, 1)] : Array (Nat × Nat))[·]?) (NN.prC prZ ++ [Value.int .i64 0, Value.slice none 0 0, Value.map none]).toArray parts := by kernel_rfl
theorem built_arena (p : NN.Pr) (h : p.ok) (room mb : Nat) : Tryd.prog.built 58 [(0, .agg (NN.prA p)), (1, Value.int .i64 (room : Int)), (3, .map (some mb))] = some (arA p room (.slice none 0 0) mb) := by
  rw [built_ar]
  have h0 := prC_length h
  unfold arA arC
  rw [show NN.prC prZ ++ [Value.int .i64 0, Value.slice none 0 0, Value.map none] = [] ++ (NN.prC prZ ++ [Value.int .i64 0, Value.slice none 0 0, Value.map none]) from rfl,
    fill_step (off := 0) (n := 83) [] (NN.prC prZ) _ (NN.prC p) rfl rfl (prC_length prZ_ok) rfl h0,
    show [] ++ (NN.prC p ++ [Value.int .i64 0, Value.slice none 0 0, Value.map none]) = NN.prC p ++ ([Value.int .i64 0] ++ [Value.slice none 0 0, Value.map none]) by simp,
    fill_step (off := 83) (n := 1) (NN.prC p) [Value.int .i64 0] _ [Value.int .i64 (room : Int)] rfl h0 rfl rfl rfl,
    show NN.prC p ++ ([Value.int .i64 (room : Int)] ++ [Value.slice none 0 0, Value.map none]) = (NN.prC p ++ [Value.int .i64 (room : Int), Value.slice none 0 0]) ++ ([Value.map none] ++ []) by simp,
    fill_step (off := 85) (n := 1) (NN.prC p ++ [Value.int .i64 (room : Int), Value.slice none 0 0]) [Value.map none] [] [Value.map (some mb)] rfl (by simp [h0]) rfl rfl rfl, fill_nil]
  simp
end Go.Proofs.YtcgnohndfedodaaDoor.An
/-
  An arena as a whole in memory; what stays when other blocks change.
-/
namespace Go.Proofs.YtcgnohndfedodaaDoor.An
open Go.RowKit Mem Sc
open Ar (Ent Ru entZ)
/-! ### what stays as long as some blocks stand -/
def Sup (I : Nat → Prop) (P : World → Prop) (w : World) : Prop := ∀ w', Kp (fun i => ¬ I i) w w' → P w'
section
variable {w w' : World} {I J G : Nat → Prop} {P P' : World → Prop}
theorem Sup.now (h : Sup I P w) : P w := h w (Kp.refl _ w)
theorem Sup.on (h : Sup I P w) (k : Kp G w w') (hG : ∀ i, I i → ¬ G i) : Sup I P w' := fun w2 k2 => h w2 ((k.mono (fun i hi _ => fun h => hG i h hi)).trans k2 (fun _ hi _ => hi))
theorem Sup.wide (h : Sup I P w) (hI : ∀ i, I i → J i) : Sup J P w := fun w2 k2 => h w2 (k2.mono fun i hi _ => fun h => hi (hI i h))
theorem Sup.imp (h : Sup I P w) (hP : ∀ w', P w' → P' w') : Sup I P' w := fun w2 k2 => hP w2 (h w2 k2)
theorem Sup.and (h : Sup I P w) (h' : Sup I P' w) : Sup I (fun w => P w ∧ P' w) w := fun w2 k2 => ⟨h w2 k2, h' w2 k2⟩
end
theorem kp_range {w w' : World} {F : Nat → Prop} {b o : Nat} {cs : List Value} (h : w.rangeAt b o cs) (k : Kp F w w') (hb : b < w.heap.size) (hn : ¬ F b) : w'.rangeAt b o cs := fun j u hu => (World.cell?_of_block (k.block b hb hn)).trans (h j u hu)
theorem sup_gates {w : World} {I : Nat → Prop} {a : Option Addr} {gs : List Gt} (h : GatesAt w a gs) (hI : 0 < gs.length → ∀ ad, a = some ad → I ad.block) : Sup I (fun w => GatesAt w a gs) w := fun w' k h0 => by
  obtain ⟨ab, ao, ha, hlt, hc⟩ := h h0
  have := hI h0 _ ha
  exact ⟨ab, ao, ha, Nat.lt_of_lt_of_le hlt k.size, fun i hi => kp_range (hc i hi) k hlt (fun hn => hn this)⟩
theorem sup_checks {w : World} {I : Nat → Prop} {a : Option Addr} {gs : List Ck} (h : ChecksAt w a gs) (hI : 0 < gs.length → ∀ ad, a = some ad → I ad.block) : Sup I (fun w => ChecksAt w a gs) w := fun w' k h0 => by
  obtain ⟨ab, ao, ha, hlt, hc⟩ := h h0
  have := hI h0 _ ha
  exact ⟨ab, ao, ha, Nat.lt_of_lt_of_le hlt k.size, fun i hi => ⟨(hc i hi).1, kp_range (hc i hi).2 k hlt (fun hn => hn this)⟩⟩
theorem sup_headers {w : World} {I : Nat → Prop} {a : Option Addr} {gs : List Hd} (h : HeadersAt w a gs) (hI : 0 < gs.length → ∀ ad, a = some ad → I ad.block) : Sup I (fun w => HeadersAt w a gs) w := fun w' k h0 => by
  obtain ⟨ab, ao, ha, hlt, hc⟩ := h h0
  have := hI h0 _ ha
  exact ⟨ab, ao, ha, Nat.lt_of_lt_of_le hlt k.size, fun i hi => ⟨(hc i hi).1, kp_range (hc i hi).2 k hlt (fun hn => hn this)⟩⟩
theorem sup_spot {w : World} {I : Nat → Prop} {s : Sp} {q : Ps} {lo : Nat} (h : SpIs w lo s q) (hI : ∀ i, lo ≤ i → i < w.heap.size → I i) : Sup I (fun w => SpIs w 0 s q) w := fun w' k => by
  obtain ⟨h1, h2, h3, h4, h5, h6⟩ := h
  refine ⟨h1, h2, h3, h4, h5, fun h0 => ?_⟩
  obtain ⟨b, off, e, g1, g2, hc⟩ := h6 h0
  exact ⟨b, off, e, Nat.zero_le _, Nat.lt_of_lt_of_le g2 k.size, fun j hj => (World.cell?_of_block (w := w) (a := ⟨b, off + j, none⟩) (k.block b g2 (fun hn => hn (hI b g1 g2)))).trans (hc j hj)⟩
theorem kp_row {w w' : World} {F : Nat → Prop} {base : Nat} {v : Value} {e size n : Nat} {xs : List Value} (h : w.ownsRow base e size v n xs) (k : Kp F w w') (hF : ∀ i, v.ownBlock = some i → ¬ F i) : w'.ownsRow base e size v n xs := by
  refine ⟨h.1, ?_⟩
  rcases h.2 with h | ⟨g, c, cur, rfl, h1, h2, h3⟩
  · exact .inl h
  · have hg : g < w.heap.size := (Array.getElem?_eq_some_iff.1 h2).1
    exact .inr ⟨g, c, cur, rfl, h1, (k.block g hg (hF g rfl)).trans h2, h3⟩
theorem row_lt {w : World} {base : Nat} {v : Value} {e size n : Nat} {xs : List Value} (h : w.ownsRow base e size v n xs) {i : Nat} (hi : v.ownBlock = some i) : i < w.heap.size ∧ base ≤ i := by
  rcases h.2 with ⟨rfl, _⟩ | ⟨g, c, cur, rfl, h1, h2, h3⟩
  · cases hi
  · cases hi
    exact ⟨(Array.getElem?_eq_some_iff.1 h2).1, h1⟩
theorem row_has {w : World} {base : Nat} {v : Value} {e size n : Nat} {xs : List Value} (h : w.ownsRow base e size v n xs) {i : Nat} (hi : v.ownBlock = some i) : ∃ cs, w.heap[i]? = some (.cells cs e (0, 0)) := by
  rcases h.2 with ⟨rfl, _⟩ | ⟨g, c, cur, rfl, h1, h2, h3⟩
  · cases hi
  · cases hi
    exact ⟨_, h2⟩
/-! ### an arena -/
structure Bk where
  e : En
  s : Sp
  q : Ps
def rowC (L : List Bk) : List Value := L.flatMap fun x => bkC x.e x.s
theorem rowC_app (L : List Bk) (x : Bk) : rowC (L ++ [x]) = rowC L ++ bkC x.e x.s := by simp [rowC]
/-- block b is an arena; what it has that never changes lies in I -/
structure Ara (w : World) (I : Nat → Prop) (b : Nat) (p : NN.Pr) (t : Tl) (gs : List Gt) (cs : List Ck) (room : Nat) (v : Value) (mb : Nat) (L : List Bk) : Prop where
  has : Has w b (arA p room v mb) 58
  pok : p.ok
  one : p.one
  tt : p.tl = t.C
  tok : t.ok
  gn : t.gn = gs.length
  cn : t.cn = cs.length
  row : w.ownsRow 0 76 144 v L.length (rowC L)
  map : MapIs w mb (L.map (·.e.id))
  gates : Sup I (fun w => GatesAt w t.ga gs) w
  checks : Sup I (fun w => ChecksAt w t.ca cs) w
  spots : ∀ x ∈ L, Sup I (fun w => SpIs w 0 x.s x.q) w
  nb : ¬ I b
  nm : ¬ I mb
  nv : ∀ k, v.ownBlock = some k → ¬ I k
  lt : ∀ i, I i → i < w.heap.size
  good : ∀ x ∈ L, x.e.ok ∧ x.s.ok
/-- all blocks that an arena has -/
def Mine (I : Nat → Prop) (b : Nat) (v : Value) (mb : Nat) : Nat → Prop := fun i => I i ∨ i = b ∨ i = mb ∨ v.ownBlock = some i
section
variable {w w' : World} {I G : Nat → Prop} {b : Nat} {p : NN.Pr} {t : Tl} {gs : List Gt} {cs : List Ck} {room : Nat} {v : Value} {mb : Nat} {L : List Bk}
theorem Ara.on (h : Ara w I b p t gs cs room v mb L) (k : Kp G w w') (hG : ∀ i, Mine I b v mb i → ¬ G i) : Ara w' I b p t gs cs room v mb L where
  has := k.has h.has (hG b (.inr (.inl rfl)))
  pok := h.pok
  one := h.one
  tt := h.tt
  tok := h.tok
  gn := h.gn
  cn := h.cn
  row := kp_row h.row k fun i hi => hG i (.inr (.inr (.inr hi)))
  map := h.map.on (k.block mb h.map.lt (hG mb (.inr (.inr (.inl rfl)))))
  gates := h.gates.on k fun i hi => hG i (.inl hi)
  checks := h.checks.on k fun i hi => hG i (.inl hi)
  spots := fun x hx => (h.spots x hx).on k fun i hi => hG i (.inl hi)
  nb := h.nb
  nm := h.nm
  nv := h.nv
  lt := fun i hi => Nat.lt_of_lt_of_le (h.lt i hi) k.size
  good := h.good
theorem Ara.mine_lt (h : Ara w I b p t gs cs room v mb L) {i : Nat} (hi : Mine I b v mb i) : i < w.heap.size := by
  rcases hi with hi | rfl | rfl | hi
  · exact h.lt i hi
  · exact h.has.lt
  · exact h.map.lt
  · exact (row_lt h.row hi).1
theorem Ara.below (h : Ara w I b p t gs cs room v mb L) (hb : Below w.heap.size w w') : Ara w' I b p t gs cs room v mb L := h.on (G := fun _ => False) (Kp.of hb) fun _ _ hf => hf
theorem Ara.b_ne_mb (h : Ara w I b p t gs cs room v mb L) : b ≠ mb := h.map.not_cells h.has
theorem Ara.b_ne_v (h : Ara w I b p t gs cs room v mb L) {i : Nat} (hi : v.ownBlock = some i) : i ≠ b := by
  rintro rfl
  obtain ⟨c, hc⟩ := row_has h.row hi
  have := h.has.out
  rw [hc] at this
  injection this with this
  injection this with _ this
  exact absurd this (by decide)
theorem Ara.mb_ne_v (h : Ara w I b p t gs cs room v mb L) {i : Nat} (hi : v.ownBlock = some i) : i ≠ mb := by
  obtain ⟨c, hc⟩ := row_has h.row hi
  exact h.map.not_cells hc
end
/-! ### and as plain mathematics -/
def wkOf (r : Ru) (hs : List Hd) : Nat := hs.foldl (fun n h => NN.Nm.cap (n + NN.ofBits h.bits)) (NN.ofBits r.g.bits)
theorem wkOf_app (r : Ru) (hs : List Hd) (h : Hd) : wkOf r (hs ++ [h]) = NN.Nm.cap (wkOf r hs + NN.ofBits h.bits) := by simp [wkOf]
theorem wkOf_lt (r : Ru) (hs : List Hd) : wkOf r hs < NN.Nm.big := by
  rcases List.eq_nil_or_concat hs with rfl | ⟨l, x, rfl⟩
  · exact NN.ofBits_lt _
  · rw [List.concat_eq_append, wkOf_app]; exact NN.Nm.cap_lt _
def enOf (r : Ru) (e : Ent) : En := ⟨e.h r.g, (e.h r.g).id, e.up, (e.hs.length : Nat), wkOf r e.hs⟩
/-- what lies there is what is stored -/
def Lk (r : Ru) (M : List Ent) (L : List Bk) : Prop := L.map (fun x => (x.e, x.q)) = M.map (fun e => (enOf r e, Ar.spot r e))
theorem Lk.length {r : Ru} {M : List Ent} {L : List Bk} (h : Lk r M L) : L.length = M.length := by
  have := congrArg List.length h
  simpa using this
theorem Lk.at {r : Ru} {M : List Ent} {L : List Bk} (h : Lk r M L) {i : Nat} {e : Ent} (he : M[i]? = some e) : ∃ s, L[i]? = some ⟨enOf r e, s, Ar.spot r e⟩ := by
  have h1 : (L.map (fun x => (x.e, x.q)))[i]? = (M.map (fun e => (enOf r e, Ar.spot r e)))[i]? := by rw [h]
  rw [List.getElem?_map, List.getElem?_map, he] at h1
  cases hL : L[i]? with
  | none => rw [hL] at h1; cases h1
  | some x =>
    rw [hL] at h1
    obtain ⟨xe, xs, xq⟩ := x
    simp only [Option.map_some, Option.some.injEq, Prod.mk.injEq] at h1
    obtain ⟨rfl, rfl⟩ := h1
    exact ⟨xs, rfl⟩
theorem Lk.ids {r : Ru} {M : List Ent} {L : List Bk} (h : Lk r M L) : L.map (·.e.id) = M.map fun e => (e.h r.g).id := by
  have := congrArg (List.map fun x : En × Ps => x.1.id) h
  rw [List.map_map, List.map_map] at this
  exact this
theorem Lk.find {r : Ru} {M : List Ent} {L : List Bk} (h : Lk r M L) (id : List UInt8) : (L.map (·.e.id)).findIdx? (· == id) = Ar.fnd r.g M id := by
  rw [h.ids, List.findIdx?_map]
  rfl
theorem Lk.put {r : Ru} {M : List Ent} {L : List Bk} (h : Lk r M L) (e : Ent) (s : Sp) : Lk r (M ++ [e]) (L ++ [⟨enOf r e, s, Ar.spot r e⟩]) := by
  unfold Lk at *
  rw [List.map_append, List.map_append, h]
  rfl
/-- the arena's own rules are those that were handed in, but for where their lists lie -/
def Alike (p : NN.Pr) (t : Tl) (r : Ru) : Prop := p.lim = r.p.lim ∧ p.ivl = r.p.ivl ∧ p.spc = r.p.spc ∧ p.fut = r.p.fut ∧ p.easy = r.p.easy ∧ t.g = r.g
/-- block b is an arena of these rules in which this is stored; all its blocks are among F -/
def ArS (w : World) (F : Nat → Prop) (b : Nat) (r : Ru) (M : List Ent) : Prop :=
  (∀ i, F i → i < w.heap.size) ∧ ∃ I p t v mb L, Ara w I b p t r.gs r.cs r.room v mb L ∧ Alike p t r ∧ Lk r M L ∧ ∀ i, Mine I b v mb i → F i
section
variable {w w' : World} {F G : Nat → Prop} {b : Nat} {r : Ru} {M : List Ent}
theorem ArS.on (h : ArS w F b r M) (k : Kp G w w') (hG : ∀ i, F i → ¬ G i) : ArS w' F b r M := by
  obtain ⟨hl, I, p, t, v, mb, L, h1, h2, h3, h4⟩ := h
  exact ⟨fun i hi => Nat.lt_of_lt_of_le (hl i hi) k.size, I, p, t, v, mb, L, h1.on k fun i hi => hG i (h4 i hi), h2, h3, h4⟩
theorem ArS.below (h : ArS w F b r M) (hb : Below w.heap.size w w') : ArS w' F b r M := h.on (G := fun _ => False) (Kp.of hb) fun _ _ hf => hf
theorem ArS.wide (h : ArS w F b r M) (hF : ∀ i, F i → G i) (hG : ∀ i, G i → i < w.heap.size) : ArS w G b r M := by
  obtain ⟨_, I, p, t, v, mb, L, h1, h2, h3, h4⟩ := h
  exact ⟨hG, I, p, t, v, mb, L, h1, h2, h3, fun i hi => hF i (h4 i hi)⟩
end
theorem nxt_lt {F : Nat → Prop} {w w' : World} (h : ∀ i, F i → i < w.heap.size) (hs : w.heap.size ≤ w'.heap.size) : ∀ i, Nxt F w w' i → i < w'.heap.size := fun i hi => by
  rcases hi with hi | hi
  · exact Nat.lt_of_lt_of_le (h i hi) hs
  · exact hi.2
theorem chk_alike {p : NN.Pr} {t : Tl} {r : Ru} (h : Alike p t r) (q : Ps) (hd : Hd) (now : Int) : chk p r.gs r.cs q hd now = chk r.p r.gs r.cs q hd now := by
  obtain ⟨pl, pi, ps, pf, pe, pt⟩ := p
  obtain ⟨⟨rl, ri, rs, rf, re, rt⟩, _, _, _, _⟩ := r
  obtain ⟨h1, h2, h3, h4, h5, h6⟩ := h
  simp only at h1 h2 h3 h4 h5
  subst h1 h2 h3 h4 h5
  rfl
theorem bh_alike {p : NN.Pr} {t : Tl} {r : Ru} (h : Alike p t r) (q : Ps) (hd : Hd) : bh p q hd = bh r.p q hd := by
  obtain ⟨pl, pi, ps, pf, pe, pt⟩ := p
  obtain ⟨⟨rl, ri, rs, rf, re, rt⟩, _, _, _, _⟩ := r
  obtain ⟨h1, h2, h3, h4, h5, h6⟩ := h
  simp only at h1 h2 h3 h4 h5
  subst h1 h2 h3 h4 h5
  rfl
end Go.Proofs.YtcgnohndfedodaaDoor.An
/-
  Operations on entries, on an arena's cells, on what lies in its row.
-/
namespace Go.Proofs.YtcgnohndfedodaaDoor.An
open Go.RowKit Mem Sc
open Ar (Ent Ru entZ)
section
variable {w w' : World} {b : Nat} {p : NN.Pr} {room mb : Nat} {v : Value}
theorem arA_at (j : Nat) : (arA p room v mb)[j]? = (arC p room v mb)[j]? := by unfold arA; rw [List.getElem?_toArray]
theorem arC_end (hp : p.ok) (j : Nat) : (arC p room v mb)[83 + j]? = ([.int .i64 (room : Int), v, .map (some mb)] : List Value)[j]? := by
  unfold arC
  rw [List.getElem?_append_right (by rw [prC_length hp]; omega), prC_length hp, show 83 + j - 83 = j by omega]
theorem ar83 (h : Has w b (arA p room v mb) 58) (hp : p.ok) : w.cell? ⟨b, 83, none⟩ = some (.int .i64 (room : Int)) := (Has.cell h 83).trans ((arA_at 83).trans (arC_end hp 0))
theorem ar84 (h : Has w b (arA p room v mb) 58) (hp : p.ok) : w.cell? ⟨b, 84, none⟩ = some v := (Has.cell h 84).trans ((arA_at 84).trans (arC_end hp 1))
theorem ar85 (h : Has w b (arA p room v mb) 58) (hp : p.ok) : w.cell? ⟨b, 85, none⟩ = some (.map (some mb)) := (Has.cell h 85).trans ((arA_at 85).trans (arC_end hp 2))
theorem ar_pr (h : Has w b (arA p room v mb) 58) : w.rangeAt b 0 (NN.prC p) := by
  have := range_of (A := []) (cs := NN.prC p) (C := [.int .i64 (room : Int), v, .map (some mb)]) (o := 0) (w := w) (b := b) (t := 58) h rfl
  exact this
theorem ar_set (h : Has w b (arA p room v mb) 58) (hp : p.ok) (v' : Value) : Has (w.setCell ⟨b, 84, none⟩ v') b (arA p room v' mb) 58 := by
  have := Has.set (i := 84) h v'
  have e : (arA p room v mb).setIfInBounds 84 v' = arA p room v' mb := by
    unfold arA arC
    rw [List.setIfInBounds_toArray]
    congr 1
    rw [List.set_append_right _ _ (by rw [prC_length hp]; omega), prC_length hp]
    rfl
  rwa [e] at this
end
/-! ### entries -/
section
variable {w : World} {k : Nat} {e : En} {ops : Array Oper} {rest : List Oper} {o : Oper} {a : Act} {Q : Exit → Act → World → Prop}
theorem EnAt.on {w' : World} (h : EnAt w k e) (hb : Below w.heap.size w w') : EnAt w' k e := below_has hb h (Has.lt h)
theorem en_newz (w : World) : EnAt (w.alloc (.cells Tryd.zeroCells50 50)) w.heap.size enZ := Has.new (enA enZ) _
theorem en_load (hgd : o.guard = none) (x : Operand) (ho : o.op = .load 50 x) (g : Nat) (hx : a.eval x = .pointer (some ⟨g, 0, none⟩)) (hg : EnAt w g e) (hs : (enA e).size = 106)
    (hk : wpList Tryd.prog ops Q rest (a.put o.dst (.agg (enA e))) w) : wpList Tryd.prog ops Q (o :: rest) a w :=
  wpList_load_row hgd 50 x ho g hx 50 (enA e) (0, 0) _ (Has.out hg) Tryd.underlying50 rfl (eninfo.trans (by rw [hs])) hk
theorem en_load_mid (hgd : o.guard = none) (x : Operand) (ho : o.op = .load 50 x) (g off : Nat) (hx : a.eval x = .pointer (some ⟨g, off, none⟩)) (e : En) (hg : w.rangeAt g off (enC e)) (hs : (enC e).length = 106)
    (hk : wpList Tryd.prog ops Q rest (a.put o.dst (.agg (enA e))) w) : wpList Tryd.prog ops Q (o :: rest) a w :=
  wpList_load_mid hgd 50 x ho g off hx (enC e) _ hg Tryd.underlying50 rfl (eninfo.trans (by rw [hs])) hk
theorem sp_load_mid (hgd : o.guard = none) (x : Operand) (ho : o.op = .load 64 x) (g off : Nat) (hx : a.eval x = .pointer (some ⟨g, off, none⟩)) (s : Sp) (hg : w.rangeAt g off (spC s)) (hs : (spC s).length = 38)
    (hk : wpList Tryd.prog ops Q rest (a.put o.dst (.agg (spA s))) w) : wpList Tryd.prog ops Q (o :: rest) a w :=
  wpList_load_mid hgd 64 x ho g off hx (spC s) _ hg Tryd.underlying64 rfl (spinfo.trans (by rw [hs])) hk
theorem pr_load_mid (hgd : o.guard = none) (x : Operand) (ho : o.op = .load 39 x) (g off : Nat) (hx : a.eval x = .pointer (some ⟨g, off, none⟩)) (p : NN.Pr) (hg : w.rangeAt g off (NN.prC p)) (hs : (NN.prC p).length = 83)
    (hk : wpList Tryd.prog ops Q rest (a.put o.dst (.agg (NN.prA p))) w) : wpList Tryd.prog ops Q (o :: rest) a w :=
  wpList_load_mid hgd 39 x ho g off hx (NN.prC p) _ hg Tryd.underlying39 rfl (NN.prinfo.trans (by rw [hs])) hk
theorem en_store (hgd : o.guard = none) (x y : Operand) (ho : o.op = .store 50 x y) (g : Nat) (cz : Array Value) (e' : En) (hx : a.eval x = .pointer (some ⟨g, 0, none⟩)) (hy : a.eval y = .agg cz) (he : cz = enA e') (hs' : (enA e').size = 106) (hg : EnAt w g e) (hs : (enA e).size = 106)
    (hk : wpList Tryd.prog ops Q rest (a.put o.dst undef) (w.setRow g (enA e'))) : wpList Tryd.prog ops Q (o :: rest) a w := by
  subst he
  exact wpList_store_row hgd 50 x y ho g (enA e') hx hy 50 (enA e) (Has.out hg) (eninfo.trans (by rw [hs'])) (by rw [hs, hs']) (enA_one e') hk
theorem en_none (hgd : o.guard = none) (x : Operand) (ho : o.op = .build 50 #[(2, x)]) (hx : a.eval x = .int .i64 (-1))
    (hk : wpList Tryd.prog ops Q rest (a.put o.dst (.agg (enA enN))) w) : wpList Tryd.prog ops Q (o :: rest) a w :=
  wpList_plain hgd fun _ hK => by
    unfold Oper.wp execOp
    simp only [ho, Sem.run_bind]
    rw [show (#[(2, x)] : Array (Nat × Operand)).map (fun (i, x) => (i, a.eval x)) = #[(2, .int .i64 (-1))] by simp [hx], run_build w 50 _ _ built_none]
    exact hK _ _ hk
theorem en_build (hgd : o.guard = none) (x0 x1 x2 x3 x4 : Operand) (ho : o.op = .build 50 #[(0, x0), (1, x1), (2, x2), (3, x3), (4, x4)]) (e : En) (he : e.ok) (h0 : a.eval x0 = .agg (hdA e.h)) (h1 : a.eval x1 = .agg (bytesV e.id)) (h2 : a.eval x2 = .int .i64 e.up) (h3 : a.eval x3 = .int .i64 e.ht) (h4 : a.eval x4 = .agg (NN.numC e.wk))
    (hk : wpList Tryd.prog ops Q rest (a.put o.dst (.agg (enA e))) w) : wpList Tryd.prog ops Q (o :: rest) a w :=
  wpList_plain hgd fun _ hK => by
    unfold Oper.wp execOp
    simp only [ho, Sem.run_bind]
    rw [show (#[(0, x0), (1, x1), (2, x2), (3, x3), (4, x4)] : Array (Nat × Operand)).map (fun (i, x) => (i, a.eval x)) = #[(0, .agg (hdA e.h)), (1, .agg (bytesV e.id)), (2, .int .i64 e.up), (3, .int .i64 e.ht), (4, .agg (NN.numC e.wk))] by simp [h0, h1, h2, h3, h4], run_build w 50 _ _ (built_entry e he)]
    exact hK _ _ hk
theorem en_results {fn : Func} {p : Tmp} (hf : fn.results = #[.cell p 50]) (tmps : Array Value) (g : Nat) (hp : tmps.getD p undef = .pointer (some ⟨g, 0, none⟩)) (hg : EnAt w g e) (hs : (enA e).size = 106) :
    (results fn tmps).run Tryd.prog w = .ok (.agg (enA e)) w :=
  results_cell_row hf tmps w g 50 (enA e) (0, 0) _ hp (Has.out hg) Tryd.underlying50 rfl (eninfo.trans (by rw [hs]))
theorem en_results2 {fn : Func} {p q : Tmp} (hf : fn.results = #[.cell p 50, .tmp q]) (tmps : Array Value) (g : Nat) (c : Value) (hp : tmps.getD p undef = .pointer (some ⟨g, 0, none⟩)) (hc : tmps.getD q undef = c) (hg : EnAt w g e) (hs : (enA e).size = 106) :
    (results fn tmps).run Tryd.prog w = .ok (.tuple #[.agg (enA e), c]) w := by
  rw [results_cell_tmp hf, hp, hc]
  have hl : (loadVar 50 ⟨g, 0, none⟩).run Tryd.prog w = .ok (.agg (enA e)) w := run_loadVar_row w g 50 50 (enA e) (0, 0) _ (Has.out hg) Tryd.underlying50 rfl (eninfo.trans (by rw [hs]))
  simp [asAddr, hl, Result.andThen]
theorem sp_results2 {s : Sp} {fn : Func} {p q : Tmp} (hf : fn.results = #[.cell p 64, .tmp q]) (tmps : Array Value) (g : Nat) (c : Value) (hp : tmps.getD p undef = .pointer (some ⟨g, 0, none⟩)) (hc : tmps.getD q undef = c) (hg : SpAt w g s) (hs : (spA s).size = 38) :
    (results fn tmps).run Tryd.prog w = .ok (.tuple #[.agg (spA s), c]) w := by
  rw [results_cell_tmp hf, hp, hc]
  have hl : (loadVar 64 ⟨g, 0, none⟩).run Tryd.prog w = .ok (.agg (spA s)) w := run_loadVar_row w g 64 64 (spA s) (0, 0) _ (Has.out hg) Tryd.underlying64 rfl (spinfo.trans (by rw [hs]))
  simp [asAddr, hl, Result.andThen]
end
/-! ### what lies in the row -/
theorem rowC_length {L : List Bk} (h : ∀ x ∈ L, x.e.ok ∧ x.s.ok) : (rowC L).length = L.length * 144 := by
  induction L with
  | nil => rfl
  | cons x L ih =>
    have hx := h x (by simp)
    have := bkC_length hx.1 hx.2
    have e : rowC (x :: L) = bkC x.e x.s ++ rowC L := rfl
    rw [e, List.length_append, ih (fun y hy => h y (by simp [hy])), this, List.length_cons]
    omega
theorem rowC_get (L : List Bk) (h : ∀ x ∈ L, x.e.ok ∧ x.s.ok) (i j : Nat) (x : Bk) (hi : L[i]? = some x) (hj : j < 144) : (rowC L)[i * 144 + j]? = (bkC x.e x.s)[j]? := by
  induction L generalizing i with
  | nil => simp at hi
  | cons y L ih =>
    have hy := h y (by simp)
    have hl := bkC_length hy.1 hy.2
    have e : rowC (y :: L) = bkC y.e y.s ++ rowC L := rfl
    rw [e]
    cases i with
    | zero =>
      obtain rfl : y = x := by simpa using hi
      rw [List.getElem?_append_left (by omega)]; simp
    | succ i =>
      rw [List.getElem?_append_right (by omega), hl, show (i + 1) * 144 + j - 144 = i * 144 + j by omega]
      exact ih (fun z hz => h z (by simp [hz])) i (by simpa using hi)
section
variable {w : World} {I : Nat → Prop} {b : Nat} {p : NN.Pr} {t : Tl} {gs : List Gt} {cs : List Ck} {room : Nat} {v : Value} {mb : Nat} {L : List Bk}
theorem Ara.range (h : Ara w I b p t gs cs room v mb L) {i : Nat} {x : Bk} (hi : L[i]? = some x) : ∃ g c, v = .slice (some ⟨g, 0, none⟩) L.length c ∧ g < w.heap.size ∧ w.rangeAt g (i * 144) (bkC x.e x.s) := by
  have hlt := (List.getElem?_eq_some_iff.1 hi).1
  have hx := h.good x (List.mem_of_getElem? hi)
  rcases h.row.2 with ⟨_, h0⟩ | ⟨g, c, cur, rfl, h1, h2, h3, h4, h5, h6⟩
  · omega
  · refine ⟨g, c, rfl, (Array.getElem?_eq_some_iff.1 h2).1, fun j u hu => ?_⟩
    have hj : j < 144 := by
      have := (List.getElem?_eq_some_iff.1 hu).1
      rwa [bkC_length hx.1 hx.2] at this
    rw [← rowC_get L h.good i j x hi hj, ← h6] at hu
    have hH : Has w g cur 76 := h2
    rw [hH.cell, ← hu, List.getElem?_take_of_lt (by omega), Array.getElem?_toList]
theorem Ara.slice (h : Ara w I b p t gs cs room v mb L) : ∃ a c, v = .slice a L.length c := by
  rcases h.row.2 with ⟨rfl, h0⟩ | ⟨g, c, cur, rfl, _⟩
  · exact ⟨none, 0, by rw [h0]⟩
  · exact ⟨_, c, rfl⟩
theorem range_en {w : World} {g o : Nat} {e : En} {s : Sp} (hr : w.rangeAt g o (bkC e s)) : w.rangeAt g o (enC e) := by
  have := range_sub (A := []) (cs := enC e) (C := spC s) (k := 0) (w := w) (b := g) (o := o) hr rfl
  exact this
theorem range_sp {w : World} {g o : Nat} {e : En} {s : Sp} (he : e.ok) (hr : w.rangeAt g o (bkC e s)) : w.rangeAt g (o + 106) (spC s) :=
  range_sub (A := enC e) (cs := spC s) (C := []) (k := 106) (w := w) (b := g) (o := o) (by rw [List.append_nil]; exact hr) (enC_length he)
theorem range_wk {w : World} {g o : Nat} {e : En} (he : e.ok) (hr : w.rangeAt g o (enC e)) : w.rangeAt g (o + 102) (NN.numC e.wk).toList :=
  range_sub (A := hdC e.h ++ (Lib.byteCells e.id ++ [.int .i64 e.up, .int .i64 e.ht])) (cs := (NN.numC e.wk).toList) (C := []) (k := 102) (w := w) (b := g) (o := o) (by rw [List.append_nil]; unfold enC at hr; simpa using hr) (by simp [hdC_length he.1, byteCells_32 he.2])
end
/-! ### in regions that draw their order -/
theorem quiet_look {C : World → Prop} {K : Act → Prop} {o : Oper} {a : Act} (x y : Operand) (ho : o.op = .lookup 55 x y true) (m : Value) (hx : a.eval x = m) (k : Value) (hy : a.eval y = k) (r : Value) (hC : ∀ w', C w' → (Instr.lookup 55 m k true).run Tryd.prog w' = .ok r w')
    (hk : K (a.put o.dst r)) : o.quiet Tryd.prog a C K :=
  ⟨_, fun w' hw' => by
    unfold Oper.quietAt
    have this : (execOp a.eval o).run Tryd.prog w' = .ok (.value r) w' := by
      unfold execOp
      simp only [ho, hx, hy, Sem.run_bind, hC w' hw', Result.andThen_ok]
      rfl
    rw [this]
    exact ⟨rfl, rfl⟩, hk⟩
theorem hl_range {w : World} {b : Nat} {l : List UInt8} {t : TypeId} (h : Has w b (bytesV l) t) : w.rangeAt b 0 (Lib.byteCells l) := fun j u hu => by
  rw [Nat.zero_add, h.cell j, ← Array.getElem?_toList, bytesV_list]
  exact hu
theorem regrown_below {w : World} : ∀ w', (∃ r : Regrown, w' = Sort.grow (redrawn w r.d) r.os) → Below w.heap.size w w' := fun w' ⟨r, e⟩ => by rw [e]; exact below_regrown w r.d r.os
end Go.Proofs.YtcgnohndfedodaaDoor.An
/-
  Reading an arena: whether a place is one, how many there are, where a name is, what is at a place.
-/
namespace Go.Proofs.YtcgnohndfedodaaDoor.An
open Go.RowKit Mem Sc
open Ar (Ent Ru entZ)
set_option maxRecDepth 100000
theorem has_nil (k : Int) (w : World) : Calls Tryd.prog 30 #[.pointer none, .int .i64 k] w fun e w' => e = .returned (.bool false) ∧ Below w.heap.size w w' := by
  have hB := Below.refl w.heap.size w
  go_enter Tryd.func30, Tryd.ntmps30
  go_wp2_with fail
  go_ret
  exact ⟨rfl, hB⟩
theorem has_w (b n : Nat) (p : Option Addr) (c : Nat) (k : Int) (g1 g2 : Bool) (h1 : decide ((0 : Int) ≤ k) = g1) (h2 : decide (k < (n : Int)) = g2) (w : World) (hv : w.cell? ⟨b, 84, none⟩ = some (.slice p n c)) :
    Calls Tryd.prog 30 #[.pointer (some ⟨b, 0, none⟩), .int .i64 k] w fun e w' => e = .returned (.bool (g1 && g2)) ∧ Below w.heap.size w w' := by
  have hB := Below.refl w.heap.size w
  cases g1
  · go_enter Tryd.func30, Tryd.ntmps30
    go_wp2_with fail
    go_ret
    exact ⟨rfl, hB⟩
  · go_enter Tryd.func30, Tryd.ntmps30
    go_wp2_with fail
    go_ret
    exact ⟨by cases g2 <;> rfl, hB⟩
theorem len_nil (w : World) : Calls Tryd.prog 13 #[.pointer none] w fun e w' => e = .returned (.int .i64 0) ∧ Below w.heap.size w w' := by
  have hB := Below.refl w.heap.size w
  go_enter Tryd.func13, Tryd.ntmps13
  go_wp2_with fail
  go_ret
  exact ⟨rfl, hB⟩
theorem len_w (b n : Nat) (p : Option Addr) (c : Nat) (w : World) (hv : w.cell? ⟨b, 84, none⟩ = some (.slice p n c)) :
    Calls Tryd.prog 13 #[.pointer (some ⟨b, 0, none⟩)] w fun e w' => e = .returned (.int .i64 (n : Int)) ∧ Below w.heap.size w w' := by
  have hB := Below.refl w.heap.size w
  go_enter Tryd.func13, Tryd.ntmps13
  go_wp2_with fail
  go_ret
  exact ⟨rfl, hB⟩
/-! ### what is at a place -/
theorem at_out (p : Value) (k : Int) (w : World) (KH : Hid (∀ w', Below w.heap.size w w' → Calls Tryd.prog 30 #[p, .int .i64 k] w' fun e w'' => e = .returned (.bool false) ∧ Below w'.heap.size w' w'')) :
    Calls Tryd.prog 20 #[p, .int .i64 k] w fun e w' => e = .returned (.tuple #[.agg (enA enN), .bool false]) ∧ Below w.heap.size w w' := by
  have z0 := enA_size enZ_ok
  have z1 := enA_size enN_ok
  go_enter Tryd.func20, Tryd.ntmps20
  go_upto_region 1 with fail
  generalize hw0 : World.alloc _ _ = v0
  have hB : Below w.heap.size w v0 := by rw [← hw0]; exact (Below.refl _ _).alloc (Nat.le_refl _) _
  have hR : EnAt v0 w.heap.size enZ := by rw [← hw0]; exact en_newz w
  clear hw0
  obtain ⟨bR, hbR⟩ : ∃ x, x = w.heap.size := ⟨_, rfl⟩
  rw [← hbR] at hR ⊢
  have HBR : Hid (w.heap.size ≤ bR) := Lib.hid (by omega)
  clear hbR
  go_wp2_with fail
  refine (KH.out _ hB).mono ?_
  rintro e v1 ⟨rfl, hb⟩
  replace hR := hR.on hb
  replace hB := hB.trans (hb.mono hB.size)
  clear hb
  go_wp2_with (first
    | (with_reducible refine en_none rfl _ rfl rfl ?_)
    | (with_reducible refine en_store rfl _ _ rfl _ _ enN rfl rfl rfl z1 hR z0 ?_))
  refine bodyPost_ret (en_results2 Tryd.results20 _ _ _ rfl rfl (Has.row hR _) z1) rfl ⟨rfl, below_setRow hB HBR.out _⟩
set_option maxHeartbeats 2000000 in
theorem at_in (b g n c k : Nat) (e : En) (he : e.ok) (hk : k < n) (w : World) (hv : w.cell? ⟨b, 84, none⟩ = some (.slice (some ⟨g, 0, none⟩) n c)) (hr : w.rangeAt g (k * 144) (enC e))
    (KH : Hid (∀ w', Below w.heap.size w w' → Calls Tryd.prog 30 #[.pointer (some ⟨b, 0, none⟩), .int .i64 (k : Int)] w' fun e w'' => e = .returned (.bool true) ∧ Below w'.heap.size w' w'')) :
    Calls Tryd.prog 20 #[.pointer (some ⟨b, 0, none⟩), .int .i64 (k : Int)] w fun r w' => r = .returned (.tuple #[.agg (enA e), .bool true]) ∧ Below w.heap.size w w' := by
  have z0 := enA_size enZ_ok
  have z1 := enA_size he
  have z2 := enC_length he
  go_enter Tryd.func20, Tryd.ntmps20
  go_upto_region 1 with fail
  generalize hw0 : World.alloc _ _ = v0
  have hB : Below w.heap.size w v0 := by rw [← hw0]; exact (Below.refl _ _).alloc (Nat.le_refl _) _
  have hR : EnAt v0 w.heap.size enZ := by rw [← hw0]; exact en_newz w
  clear hw0
  obtain ⟨bR, hbR⟩ : ∃ x, x = w.heap.size := ⟨_, rfl⟩
  rw [← hbR] at hR ⊢
  have HBR : Hid (w.heap.size ≤ bR) := Lib.hid (by omega)
  clear hbR
  go_wp2_with fail
  refine (KH.out _ hB).mono ?_
  rintro r v1 ⟨rfl, hb⟩
  replace hR := hR.on hb
  replace hB := hB.trans (hb.mono hB.size)
  clear hb
  have hv1 := (hB.cell (p := ⟨b, 84, none⟩) (block_lt_of_cell hv)).trans hv
  have hr1 : v1.rangeAt g (k * 144) (enC e) := range_below hr hB (by omega)
  clear hv hr
  go_wp2_with (first
    | (with_reducible refine en_load_mid rfl _ rfl g (k * 144) rfl e hr1 z2 ?_)
    | (with_reducible refine en_store rfl _ _ rfl _ _ e rfl rfl rfl z1 hR z0 ?_))
  refine bodyPost_ret (en_results2 Tryd.results20 _ _ _ rfl rfl (Has.row hR _) z1) rfl ⟨rfl, below_setRow hB HBR.out _⟩
/-! ### by what is stored -/
def plc : Option Nat → Int
  | some i => (i : Int)
  | none => -1
section
variable {w : World} {F : Nat → Prop} {b : Nat} {r : Ru} {M : List Ent}
theorem len_at (h : ArS w F b r M) : Calls Tryd.prog 13 #[.pointer (some ⟨b, 0, none⟩)] w fun e w' => e = .returned (.int .i64 (M.length : Nat)) ∧ Below w.heap.size w w' := by
  obtain ⟨_, I, p, t, v, mb, L, h1, h2, h3, h4⟩ := h
  obtain ⟨a, c, rfl⟩ := h1.slice
  have := len_w b L.length a c w (ar84 h1.has h1.pok)
  rwa [h3.length] at this
theorem enOf_ok (h : ArS w F b r M) {i : Nat} {e : Ent} (he : M[i]? = some e) : (enOf r e).ok := by
  obtain ⟨_, I, p, t, v, mb, L, h1, h2, h3, h4⟩ := h
  obtain ⟨s, hs⟩ := h3.at he
  exact (h1.good _ (List.mem_of_getElem? hs)).1
theorem has_at (h : ArS w F b r M) (k : Int) (g : Bool) (hg : (decide (0 ≤ k) && decide (k < (M.length : Nat))) = g) : Calls Tryd.prog 30 #[.pointer (some ⟨b, 0, none⟩), .int .i64 k] w fun e w' => e = .returned (.bool g) ∧ Below w.heap.size w w' := by
  obtain ⟨_, I, p, t, v, mb, L, h1, h2, h3, h4⟩ := h
  obtain ⟨a, c, rfl⟩ := h1.slice
  have := has_w b L.length a c k _ _ rfl rfl w (ar84 h1.has h1.pok)
  rwa [h3.length, hg] at this
theorem at_at (h : ArS w F b r M) {i : Nat} {e : Ent} (he : M[i]? = some e) (k : Int) (hk : k = (i : Nat)) : Calls Tryd.prog 20 #[.pointer (some ⟨b, 0, none⟩), .int .i64 k] w fun x w' => x = .returned (.tuple #[.agg (enA (enOf r e)), .bool true]) ∧ Below w.heap.size w w' := by
  subst hk
  have hi := (List.getElem?_eq_some_iff.1 he).1
  have KH : Hid (∀ w', Below w.heap.size w w' → Calls Tryd.prog 30 #[.pointer (some ⟨b, 0, none⟩), .int .i64 (i : Nat)] w' fun e w'' => e = .returned (.bool true) ∧ Below w'.heap.size w' w'') := Lib.hid fun w' hb => has_at (h.below hb) _ true (by rw [Bool.and_eq_true]; exact ⟨decide_eq_true (by omega), decide_eq_true (by omega)⟩)
  have ho := enOf_ok h he
  obtain ⟨_, I, p, t, v, mb, L, h1, h2, h3, h4⟩ := h
  obtain ⟨s, hs⟩ := h3.at he
  obtain ⟨g, c, rfl, hg, hr⟩ := h1.range hs
  exact at_in b g L.length c i (enOf r e) ho (by rw [h3.length]; exact hi) w (ar84 h1.has h1.pok) (range_en hr) KH
theorem at_not (h : ArS w F b r M) (k : Int) (hk : ¬ (0 ≤ k ∧ k < (M.length : Nat))) : Calls Tryd.prog 20 #[.pointer (some ⟨b, 0, none⟩), .int .i64 k] w fun x w' => x = .returned (.tuple #[.agg (enA enN), .bool false]) ∧ Below w.heap.size w w' :=
  at_out _ k w (Lib.hid fun w' hb => has_at (h.below hb) k false (by
    rw [Bool.and_eq_false_iff]
    by_cases h0 : 0 ≤ k
    · exact .inr (decide_eq_false (by omega))
    · exact .inl (decide_eq_false h0)))
end
theorem at_nil (k : Int) (w : World) : Calls Tryd.prog 20 #[.pointer none, .int .i64 k] w fun x w' => x = .returned (.tuple #[.agg (enA enN), .bool false]) ∧ Below w.heap.size w w' :=
  at_out _ k w (Lib.hid fun w' _ => has_nil k w')
end Go.Proofs.YtcgnohndfedodaaDoor.An
/-
  Regions that draw their order and end in a deed: what is known ahead of it, and behind it. Single operations on an arena.
-/
namespace Go.Proofs.YtcgnohndfedodaaDoor.An
open Go.RowKit Mem Sc NN.Rg2
open Ar (Ent Ru entZ)
/-- ahead of operation k, and behind it -/
def Ph (k : Nat) (Pre Post : World → Prop) (l : Array Bool) (w : World) : Prop := (l.getD k false = false → Pre w) ∧ (l.getD k false = true → Post w)
section
variable {k i : Nat} {Pre Post : World → Prop} {l : Array Bool} {w w' : World}
theorem Ph.keep (h : Ph k Pre Post l w) (hi : i < l.size) (hk : i ≠ k) : Ph k Pre Post (l.setIfInBounds i true) w := by
  unfold Ph at *
  rwa [getD_none l i k hi hk]
theorem Ph.pre (h : Ph k Pre Post l w) (hl : (l.setIfInBounds i true).getD k false = false) (hi : i < l.size) (hk : i ≠ k) : Pre w := h.1 (by rw [← getD_none l i k hi hk]; exact hl)
theorem Ph.made (hl : (l.setIfInBounds i true).getD k false = false) (hp : Pre w') : Ph k Pre Post (l.setIfInBounds i true) w' := ⟨fun _ => hp, fun h => by rw [hl] at h; cases h⟩
theorem Ph.last (hi : k < l.size) (hp : Post w') : Ph k Pre Post (l.setIfInBounds k true) w' := ⟨fun h => (by rw [getD_set _ _ _ hi, if_pos rfl] at h; cases h), fun _ => hp⟩
theorem Ph.zero (hl : ∀ i, l.getD i false = false) (hp : Pre w) : Ph k Pre Post l w := ⟨fun _ => hp, fun h => by rw [hl] at h; cases h⟩
end
/-- .. where what is behind it speaks of a slot -/
def PhA (k s : Nat) (Pre : World → Prop) (Post : Value → World → Prop) (l : Array Bool) (a : Act) (w : World) : Prop := (l.getD k false = false → Pre w) ∧ (l.getD k false = true → Post (a.eval (.tmp s)) w)
section
variable {k i s : Nat} {Pre : World → Prop} {Post : Value → World → Prop} {l : Array Bool} {a : Act} {w w' : World}
theorem PhA.keep (h : PhA k s Pre Post l a w) (hi : i < l.size) (hk : i ≠ k) (d : Option Tmp) (u : Value) (hd : d ≠ some s) : PhA k s Pre Post (l.setIfInBounds i true) (a.put d u) w := by
  unfold PhA at *
  rwa [getD_none l i k hi hk, Act.eval_put (fun d' hdd e => hd (by rw [hdd]; cases e; rfl))]
theorem PhA.pre (h : PhA k s Pre Post l a w) (hl : (l.setIfInBounds i true).getD k false = false) (hi : i < l.size) (hk : i ≠ k) : Pre w := h.1 (by rw [← getD_none l i k hi hk]; exact hl)
theorem PhA.made {a' : Act} (hl : (l.setIfInBounds i true).getD k false = false) (hp : Pre w') : PhA k s Pre Post (l.setIfInBounds i true) a' w' := ⟨fun _ => hp, fun h => by rw [hl] at h; cases h⟩
theorem PhA.last (u : Value) (hi : k < l.size) (hp : Post (a.eval (.tmp s)) w') : PhA k s Pre Post (l.setIfInBounds k true) (a.put none u) w' := ⟨fun h => (by rw [getD_set _ _ _ hi, if_pos rfl] at h; cases h), fun _ => hp⟩
theorem PhA.zero (hl : ∀ i, l.getD i false = false) (hp : Pre w) : PhA k s Pre Post l a w := ⟨fun _ => hp, fun h => by rw [hl] at h; cases h⟩
end
section
variable {ρ : Operand → Value} {o : Oper} {w : World}
theorem ex_nil {x : Operand} {p : Addr} (ho : o.op = .nilCheck x) (hx : ρ x = .pointer (some p)) : (execOp ρ o).run Tryd.prog w = .ok (.value (.pointer (some p))) w := by
  unfold execOp
  simp only [ho, hx]
  rfl
theorem afield0 (w : World) (g : Nat) : (Instr.fieldAt 58 (.pointer (some ⟨g, 0, none⟩)) 0).run Tryd.prog w = .ok (.pointer (some ⟨g, 0, none⟩)) w := by kernel_rfl
theorem afield2 (w : World) (g : Nat) : (Instr.fieldAt 58 (.pointer (some ⟨g, 0, none⟩)) 2).run Tryd.prog w = .ok (.pointer (some ⟨g, 84, none⟩)) w := by kernel_rfl
theorem afield3 (w : World) (g : Nat) : (Instr.fieldAt 58 (.pointer (some ⟨g, 0, none⟩)) 3).run Tryd.prog w = .ok (.pointer (some ⟨g, 85, none⟩)) w := by kernel_rfl
theorem efield1 (w : World) (g : Nat) : (Instr.fieldAt 50 (.pointer (some ⟨g, 0, none⟩)) 1).run Tryd.prog w = .ok (.pointer (some ⟨g, 68, none⟩)) w := by kernel_rfl
theorem ex_field {T : TypeId} {x : Operand} {n g m : Nat} (ho : o.op = .fieldAddr T x n) (hx : ρ x = .pointer (some ⟨g, 0, none⟩)) (hf : (Instr.fieldAt T (.pointer (some ⟨g, 0, none⟩)) n).run Tryd.prog w = .ok (.pointer (some ⟨g, m, none⟩)) w) : (execOp ρ o).run Tryd.prog w = .ok (.value (.pointer (some ⟨g, m, none⟩))) w := by
  unfold execOp
  simp only [ho, hx, Sem.run_bind, hf, Result.andThen_ok]
  rfl
theorem load_bks {p : Addr} {a : Option Addr} {n c : Nat} (h : w.cell? p = some (.slice a n c)) : (loadVar 56 p).run Tryd.prog w = .ok (.slice a n c) w := by
  go_simp
theorem ex_load_bks {x : Operand} {p : Addr} {a : Option Addr} {n c : Nat} (ho : o.op = .load 56 x) (hx : ρ x = .pointer (some p)) (hc : w.cell? p = some (.slice a n c)) : (execOp ρ o).run Tryd.prog w = .ok (.value (.slice a n c)) w := by
  unfold execOp
  simp only [ho, hx, Instr.loadAt, Instr.sureAddr, Sem.run_bind, Sem.run_pure, Result.andThen_ok, load_bks hc]
theorem store_bks {p : Addr} {a : Option Addr} {n c : Nat} {u : Value} (hf : w.frozen? p = false) (hc : w.cell? p = some u) : (storeVar 56 p (.slice a n c)).run Tryd.prog w = .ok () (w.setCell p (.slice a n c)) := by
  go_simp
theorem ex_store_bks {x y : Operand} {p : Addr} {a : Option Addr} {n c : Nat} {u : Value} (ho : o.op = .store 56 x y) (hx : ρ x = .pointer (some p)) (hy : ρ y = .slice a n c) (hf : w.frozen? p = false) (hc : w.cell? p = some u) : (execOp ρ o).run Tryd.prog w = .ok .skip (w.setCell p (.slice a n c)) := by
  unfold execOp
  simp only [ho, hx, hy, Instr.storeAt, Instr.sureAddr, Sem.run_bind, Sem.run_pure, Result.andThen_ok, store_bks hf hc]
theorem load_map {p : Addr} {m : Option Nat} (h : w.cell? p = some (.map m)) : (loadVar 55 p).run Tryd.prog w = .ok (.map m) w := by
  go_simp
theorem ex_load_map {x : Operand} {p : Addr} {m : Option Nat} (ho : o.op = .load 55 x) (hx : ρ x = .pointer (some p)) (hc : w.cell? p = some (.map m)) : (execOp ρ o).run Tryd.prog w = .ok (.value (.map m)) w := by
  unfold execOp
  simp only [ho, hx, Instr.loadAt, Instr.sureAddr, Sem.run_bind, Sem.run_pure, Result.andThen_ok, load_map hc]
theorem ex_load_en {x : Operand} {g : Nat} {e : En} (ho : o.op = .load 50 x) (hx : ρ x = .pointer (some ⟨g, 0, none⟩)) (hg : w.rangeAt g 0 (enC e)) (hs : (enC e).length = 106) : (execOp ρ o).run Tryd.prog w = .ok (.value (.agg (enA e))) w :=
  ex_mid 50 ho hx Tryd.underlying50 rfl (eninfo.trans (by rw [hs])) hg
theorem ex_load_sp {x : Operand} {g : Nat} {s : Sp} (ho : o.op = .load 64 x) (hx : ρ x = .pointer (some ⟨g, 0, none⟩)) (hg : w.rangeAt g 0 (spC s)) (hs : (spC s).length = 38) : (execOp ρ o).run Tryd.prog w = .ok (.value (.agg (spA s))) w :=
  ex_mid 64 ho hx Tryd.underlying64 rfl (spinfo.trans (by rw [hs])) hg
theorem ex_load_hl {x : Operand} {g off : Nat} {l : List UInt8} (ho : o.op = .load 35 x) (hx : ρ x = .pointer (some ⟨g, off, none⟩)) (hg : w.rangeAt g off (Lib.byteCells l)) (hs : l.length = 32) : (execOp ρ o).run Tryd.prog w = .ok (.value (.agg (bytesV l))) w := by
  have := ex_mid (P := Tryd.prog) (ρ := ρ) (o := o) (w := w) 35 ho hx (cs := Lib.byteCells l) Tryd.underlying35 rfl (hinfo.trans (by rw [byteCells_32 hs])) hg
  rw [this, ← bytesV_list]
theorem ex_load_prm {x : Operand} {g : Nat} {p : NN.Pr} (ho : o.op = .load 39 x) (hx : ρ x = .pointer (some ⟨g, 0, none⟩)) (hg : w.rangeAt g 0 (NN.prC p)) (hs : (NN.prC p).length = 83) : (execOp ρ o).run Tryd.prog w = .ok (.value (.agg (NN.prA p))) w :=
  ex_mid 39 ho hx Tryd.underlying39 rfl (NN.prinfo.trans (by rw [hs])) hg
theorem ex_build_bk {x y : Operand} {e : En} {s : Sp} (ho : o.op = .build 76 #[(0, x), (1, y)]) (hx : ρ x = .agg (enA e)) (hy : ρ y = .agg (spA s)) (he : e.ok) (hs : s.ok) : (execOp ρ o).run Tryd.prog w = .ok (.value (.agg (bkC e s).toArray)) w := by
  unfold execOp
  simp only [ho, Sem.run_bind]
  rw [show (#[(0, x), (1, y)] : Array (Nat × Operand)).map (fun (i, x) => (i, ρ x)) = #[(0, .agg (enA e)), (1, .agg (spA s))] by simp [hx, hy], run_build w 76 _ _ (built_block e s he hs)]
  rfl
theorem bk_info : ∃ i z, Tryd.prog.info? 76 = some i ∧ i.zero = some z ∧ i.size = 144 ∧ i.bytes = 272 ∧ z.cells.size = 144 := info_of (by kernel_rfl) (by kernel_rfl) (by kernel_rfl)
theorem build_bk1 (cs : Array Value) (h : cs.size = 144) (w : World) : (Instr.buildSlice 56 1 #[(0, .agg cs)]).run Tryd.prog w = .ok (.slice (some ⟨w.heap.size, 0, none⟩) 1 1) (w.alloc (.cells cs 76)) := by
  obtain ⟨i, z, hi, hz, h1, h2, h3⟩ := bk_info
  refine run_buildSlice w 56 76 1 _ cs i z Tryd.underlying56 hi hz (by rw [h1]; decide) (by rw [h1]; decide) ?_
  rw [h1]
  exact fill_one 144 _ cs (by simp) h
theorem ex_slice_bk {x : Operand} {cs : Array Value} (ho : o.op = .buildSlice 56 1 #[(0, x)]) (hx : ρ x = .agg cs) (h : cs.size = 144) : (execOp ρ o).run Tryd.prog w = .ok (.value (.slice (some ⟨w.heap.size, 0, none⟩) 1 1)) (w.alloc (.cells cs 76)) :=
  ex_slice1 ho hx (build_bk1 cs h w)
theorem ex_append_bk {x y : Operand} {v : Value} {n g : Nat} {xs : List Value} {e : En} {s : Sp} (he : e.ok) (hs : s.ok) (hx : ρ x = v) (hown : w.ownsRow 0 76 144 v n xs) (hy : ρ y = .slice (some ⟨g, 0, none⟩) 1 1) (hg : Has w g (bkC e s).toArray 76) (hn : n ≤ 1000) :
    ∃ v' w', (∀ o : Oper, o.op = .call { callee := .builtin .append, args := #[x, y], argTypes := #[56, 56] } → o.type = 56 → (execOp ρ o).run Tryd.prog w = .ok (.value v') w') ∧ w'.ownsRow 0 76 144 v' (n + 1) (xs ++ bkC e s) ∧ w.grownBy w' v.ownBlock ∧ (v'.ownBlock = v.ownBlock ∨ v'.ownBlock = some w.heap.size) := by
  obtain ⟨i, z, hi, hz, h1, h2, h3⟩ := bk_info
  obtain ⟨v', w', hr, g1, g2, _, g4⟩ := run_append_own_at (P := Tryd.prog) w 0 56 56 76 i z 144 272 Tryd.underlying56 hi hz h1 h2 h3 (by decide) v n xs hown ⟨g, 0, none⟩ 1 1 (bkC e s) (by rw [bkC_length he hs]) (fun j u hj => by
    rw [Addr.add_lit, Nat.zero_add, hg.cell j, List.getElem?_toArray]
    exact hj) (bkC_one e s) (by unfold maxLen; omega) (by omega) (Nat.zero_le _)
  refine ⟨v', w', fun o ho hty => ?_, g1, g2, g4⟩
  unfold execOp
  simp only [ho, hty, resolve, invoke, builtin, Sem.run_bind, Sem.run_pure, Result.andThen_ok, List.map_toArray, List.map_cons, List.map_nil, hx, hy, hr]
theorem ex_mapUpd {x y z : Operand} {b : Nat} {k v : Value} {w' : World} (ho : o.op = .mapUpdate 55 x y z) (hx : ρ x = .map (some b)) (hy : ρ y = k) (hz : ρ z = v) (hr : (Instr.mapUpdate 55 (.map (some b)) k v).run Tryd.prog w = .ok () w') : (execOp ρ o).run Tryd.prog w = .ok .skip w' := by
  unfold execOp
  simp only [ho, hx, hy, hz, Sem.run_bind, Sem.run_pure, Result.andThen_ok, hr]
theorem ex_idx {T : TypeId} {x y : Operand} {g j m : Nat} {n c : Nat} (ho : o.op = .indexAddr T x y) (hx : ρ x = .slice (some ⟨g, 0, none⟩) n c) (hy : ρ y = .int .i64 (j : Int)) (hf : (Instr.indexAt T (.slice (some ⟨g, 0, none⟩) n c) (.int .i64 (j : Int))).run Tryd.prog w = .ok (.pointer (some ⟨g, m, none⟩)) w) : (execOp ρ o).run Tryd.prog w = .ok (.value (.pointer (some ⟨g, m, none⟩))) w := by
  unfold execOp
  simp only [ho, hx, hy, Sem.run_bind, hf, Result.andThen_ok]
  rfl
theorem bk_idx (w : World) (g j n c : Nat) (hj : j < n) : (Instr.indexAt 56 (.slice (some ⟨g, 0, none⟩) n c) (.int .i64 (j : Int))).run Tryd.prog w = .ok (.pointer (some ⟨g, j * 144, none⟩)) w := by
  go_simp
end
end Go.Proofs.YtcgnohndfedodaaDoor.An
/-
  Rules are copied: their lists are new.
-/
namespace Go.Proofs.YtcgnohndfedodaaDoor.An
open Go.RowKit Mem Sc
open Ar (Ent Ru entZ)
theorem clone_gates (a : Option Addr) (n c : Nat) (L : List Gt) (hn : n = L.length) (hl : n ≤ 1000) (w : World) (hA : GatesAt w a L) :
    Calls Tryd.prog 25 #[.slice a n c] w fun e w' => ∃ a' c', e = .returned (.slice a' n c') ∧ (GatesAt w' a' L ∧ (0 < L.length → ∀ ad, a' = some ad → w.heap.size ≤ ad.block)) ∧ Below w.heap.size w w' := by
  cases a with
  | none =>
    have h0 : n = 0 := by
      by_cases h : 0 < L.length
      · obtain ⟨_, _, e, _⟩ := hA h; cases e
      · omega
    refine (clone_gates_nil n c w).mono ?_
    rintro e w' ⟨rfl, rfl⟩
    exact ⟨none, 0, by rw [h0], ⟨fun h => absurd h (by omega), fun _ ad e => by cases e⟩, Below.refl _ _⟩
  | some ad =>
    by_cases h0 : 0 < L.length
    · obtain ⟨ab, ao, e, hlt, hc⟩ := hA h0
      cases e
      have hlen : ∀ x ∈ L, (gtC x).length = 2 := (fun _ _ => rfl)
      refine (clone_gates_some ⟨ab, ao, none⟩ n c L hn hl w (fun j u hj => ?_)).mono ?_
      · rw [Addr.add_lit]
        refine flat_cells gtC 2 (by decide) L hlen (fun i x hi => ?_) j u hj
        obtain ⟨h1, h2⟩ := List.getElem?_eq_some_iff.1 hi
        rw [← h2]; exact hc i h1
      · rintro e w' ⟨v', rfl, ho, hb⟩
        obtain ⟨a', c', rfl, _, h3⟩ := flat_own gtC 2 L hlen ho hn
        obtain ⟨g, rfl, h4, h5, h6⟩ := h3 (by omega)
        exact ⟨_, c', rfl, ⟨fun _ => ⟨g, 0, rfl, h5, fun i hi => by rw [Nat.zero_add]; exact h6 i _ (List.getElem?_eq_getElem hi)⟩, fun _ ad e => by cases e; exact h4⟩, hb⟩
    · obtain rfl : L = [] := List.eq_nil_of_length_eq_zero (by omega)
      refine (clone_gates_some ad n c [] hn hl w (fun j u hj => by simp at hj)).mono ?_
      rintro e w' ⟨v', rfl, ho, hb⟩
      obtain ⟨a', c', rfl, _⟩ := flat_own gtC 2 [] (fun x hx => by cases hx) ho hn
      exact ⟨a', c', rfl, ⟨fun h => by simp at h, fun h => by simp at h⟩, hb⟩
theorem clone_checks (a : Option Addr) (n c : Nat) (L : List Ck) (hn : n = L.length) (hl : n ≤ 1000) (w : World) (hA : ChecksAt w a L) :
    Calls Tryd.prog 26 #[.slice a n c] w fun e w' => ∃ a' c', e = .returned (.slice a' n c') ∧ (ChecksAt w' a' L ∧ (0 < L.length → ∀ ad, a' = some ad → w.heap.size ≤ ad.block)) ∧ Below w.heap.size w w' := by
  cases a with
  | none =>
    have h0 : n = 0 := by
      by_cases h : 0 < L.length
      · obtain ⟨_, _, e, _⟩ := hA h; cases e
      · omega
    refine (clone_checks_nil n c w).mono ?_
    rintro e w' ⟨rfl, rfl⟩
    exact ⟨none, 0, by rw [h0], ⟨fun h => absurd h (by omega), fun _ ad e => by cases e⟩, Below.refl _ _⟩
  | some ad =>
    by_cases h0 : 0 < L.length
    · obtain ⟨ab, ao, e, hlt, hc⟩ := hA h0
      cases e
      have hlen : ∀ x ∈ L, (ckC x).length = 33 := (fun x hx => ckC_length (by obtain ⟨i, hi, e⟩ := List.mem_iff_getElem.1 hx; rw [← e]; exact (hc i hi).1))
      refine (clone_checks_some ⟨ab, ao, none⟩ n c L (fun x hx => by obtain ⟨i, hi, e⟩ := List.mem_iff_getElem.1 hx; rw [← e]; exact (hc i hi).1) hn hl w (fun j u hj => ?_)).mono ?_
      · rw [Addr.add_lit]
        refine flat_cells ckC 33 (by decide) L hlen (fun i x hi => ?_) j u hj
        obtain ⟨h1, h2⟩ := List.getElem?_eq_some_iff.1 hi
        rw [← h2]; exact (hc i h1).2
      · rintro e w' ⟨v', rfl, ho, hb⟩
        obtain ⟨a', c', rfl, _, h3⟩ := flat_own ckC 33 L hlen ho hn
        obtain ⟨g, rfl, h4, h5, h6⟩ := h3 (by omega)
        exact ⟨_, c', rfl, ⟨fun _ => ⟨g, 0, rfl, h5, fun i hi => ⟨(hc i hi).1, by rw [Nat.zero_add]; exact h6 i _ (List.getElem?_eq_getElem hi)⟩⟩, fun _ ad e => by cases e; exact h4⟩, hb⟩
    · obtain rfl : L = [] := List.eq_nil_of_length_eq_zero (by omega)
      refine (clone_checks_some ad n c [] (fun x hx => by cases hx) hn hl w (fun j u hj => by simp at hj)).mono ?_
      rintro e w' ⟨v', rfl, ho, hb⟩
      obtain ⟨a', c', rfl, _⟩ := flat_own ckC 33 [] (fun x hx => by cases hx) ho hn
      exact ⟨a', c', rfl, ⟨fun h => by simp at h, fun h => by simp at h⟩, hb⟩
theorem pr_set5 {p : NN.Pr} {t : Tl} (tt : p.tl = t.C) (a : Option Addr) (n c : Nat) : (NN.prA p).setIfInBounds 5 (.slice a n c) = NN.prA { p with tl := ({ t with ga := a, gn := n, gc := c } : Tl).C } := by
  unfold NN.prA NN.prC
  rw [tt, List.setIfInBounds_toArray]
  rfl
theorem pr_set6 {p : NN.Pr} {t : Tl} (tt : p.tl = t.C) (a : Option Addr) (n c : Nat) : (NN.prA p).setIfInBounds 6 (.slice a n c) = NN.prA { p with tl := ({ t with ca := a, cn := n, cc := c } : Tl).C } := by
  unfold NN.prA NN.prC
  rw [tt, List.setIfInBounds_toArray]
  rfl
theorem pr_sl5 {w : World} {k : Nat} {p : NN.Pr} {t : Tl} (h : NN.PrAt w k p) (tt : p.tl = t.C) (a : Option Addr) (n c : Nat) : NN.PrAt (w.setCell ⟨k, 5, none⟩ (.slice a n c)) k { p with tl := ({ t with ga := a, gn := n, gc := c } : Tl).C } := by
  have := NN.Has.set (i := 5) h (.slice a n c)
  rwa [pr_set5 tt] at this
theorem pr_sl6 {w : World} {k : Nat} {p : NN.Pr} {t : Tl} (h : NN.PrAt w k p) (tt : p.tl = t.C) (a : Option Addr) (n c : Nat) : NN.PrAt (w.setCell ⟨k, 6, none⟩ (.slice a n c)) k { p with tl := ({ t with ca := a, cn := n, cc := c } : Tl).C } := by
  have := NN.Has.set (i := 6) h (.slice a n c)
  rwa [pr_set6 tt] at this
/-- rules whose lists are elsewhere -/
def moved (p : NN.Pr) (t : Tl) (ga : Option Addr) (gc : Nat) (ca : Option Addr) (cc : Nat) : NN.Pr := { p with tl := ({ t with ga := ga, gc := gc, ca := ca, cc := cc } : Tl).C }
def movedT (t : Tl) (ga : Option Addr) (gc : Nat) (ca : Option Addr) (cc : Nat) : Tl := { t with ga := ga, gc := gc, ca := ca, cc := cc }
theorem tl_length (t : Tl) (h : t.ok) : t.C.length = 78 := by unfold Tl.C; simp [h.1, hdC_length h.2]
theorem moved_ok (p : NN.Pr) (t : Tl) (h : t.ok) (ga : Option Addr) (gc : Nat) (ca : Option Addr) (cc : Nat) : (moved p t ga gc ca cc).ok := tl_length _ h
theorem pr_store {w : World} {p : NN.Pr} {ops : Array Oper} {rest : List Oper} {o : Oper} {a : Act} {Q : Exit → Act → World → Prop} (hgd : o.guard = none) (x y : Operand) (ho : o.op = .store 39 x y) (g : Nat) (cz : Array Value) (p' : NN.Pr) (h1 : p'.one) (hx : a.eval x = .pointer (some ⟨g, 0, none⟩)) (hy : a.eval y = .agg cz) (e : cz = NN.prA p') (hs' : (NN.prA p').size = 83) (hg : NN.PrAt w g p) (hs : (NN.prA p).size = 83)
    (hk : wpList Tryd.prog ops Q rest (a.put o.dst undef) (w.setRow g (NN.prA p'))) : wpList Tryd.prog ops Q (o :: rest) a w := by
  subst e
  exact wpList_store_row hgd 39 x y ho g (NN.prA p') hx hy 39 (NN.prA p) (Has.out hg) (NN.prinfo.trans (by rw [hs'])) (by rw [hs, hs']) (all_oneCell_toArray (NN.prC_one h1)) hk
theorem pr_newz (w : World) : NN.PrAt (w.alloc (.cells Tryd.zeroCells39 39)) w.heap.size prZ := NN.pr_new w prZ
theorem pr_newz1 (w : World) (ob : Obj) : NN.PrAt ((w.alloc ob).alloc (.cells Tryd.zeroCells39 39)) (w.heap.size + 1) prZ := Has.new1 ob (NN.prA prZ) _
theorem pr_results {w : World} {p : NN.Pr} {fn : Func} {q : Tmp} (hf : fn.results = #[.cell q 39]) (tmps : Array Value) (g : Nat) (hp : tmps.getD q undef = .pointer (some ⟨g, 0, none⟩)) (hg : NN.PrAt w g p) (hs : (NN.prA p).size = 83) :
    (results fn tmps).run Tryd.prog w = .ok (.agg (NN.prA p)) w :=
  results_cell_row hf tmps w g 39 (NN.prA p) (0, 0) _ hp (Has.out hg) Tryd.underlying39 rfl (NN.prinfo.trans (by rw [hs]))
theorem below_set {B : Nat} {w w' : World} (h : Below B w w') (p : Addr) (v : Value) (hp : B ≤ p.block) : Below B w (w'.setCell p v) := h.setCell hp v
set_option maxRecDepth 100000 in
set_option maxHeartbeats 2000000 in
theorem copied_w (p : NN.Pr) (hp : p.ok) (h1 : p.one) (t : Tl) (tt : p.tl = t.C) (ht : t.ok) (G K : World → Option Addr → Prop) (w : World)
    (KG : Hid (∀ w', Below w.heap.size w w' → w.heap.size + 2 ≤ w'.heap.size → Calls Tryd.prog 25 #[.slice t.ga t.gn t.gc] w' fun e w'' => ∃ a' c', e = .returned (.slice a' t.gn c') ∧ G w'' a' ∧ Below w'.heap.size w' w''))
    (KC : Hid (∀ w', Below w.heap.size w w' → w.heap.size + 2 ≤ w'.heap.size → Calls Tryd.prog 26 #[.slice t.ca t.cn t.cc] w' fun e w'' => ∃ a' c', e = .returned (.slice a' t.cn c') ∧ K w'' a' ∧ Below w'.heap.size w' w'')) :
    Calls Tryd.prog 16 #[.agg (NN.prA p)] w fun e w' => ∃ ga gc ca cc, e = .returned (.agg (NN.prA (moved p t ga gc ca cc))) ∧ (∃ w1, G w1 ga ∧ Kp (fun i => i = w.heap.size ∨ i = w.heap.size + 1) w1 w') ∧ (∃ w1, K w1 ca ∧ Kp (fun i => i = w.heap.size ∨ i = w.heap.size + 1) w1 w') ∧ Below w.heap.size w w' := by
  have hz := NN.prA_size hp
  have z0 := NN.prA_size prZ_ok
  go_enter Tryd.func16, Tryd.ntmps16
  go_upto_region 1 with fail
  generalize hw0 : World.alloc _ _ = v0
  have hB : Below w.heap.size w v0 := by rw [← hw0]; exact ((Below.refl _ _).alloc (Nat.le_refl _) _).alloc (by simp) _
  have hP : NN.PrAt v0 w.heap.size p := by rw [← hw0]; exact (NN.Has.new _ _).alloc _
  have hsz0 : w.heap.size + 2 ≤ v0.heap.size := by rw [← hw0]; simp
  have hR : NN.PrAt v0 (w.heap.size + 1) prZ := by rw [← hw0]; exact pr_newz1 w _
  clear hw0
  obtain ⟨bP, hbP⟩ : ∃ x, x = w.heap.size := ⟨_, rfl⟩
  obtain ⟨bR, hbR⟩ : ∃ x, x = w.heap.size + 1 := ⟨_, rfl⟩
  rw [← hbR] at hR ⊢
  rw [← hbP] at hP ⊢
  have HP : Hid (bP = w.heap.size) := Lib.hid hbP
  have HR : Hid (bR = w.heap.size + 1) := Lib.hid hbR
  have n1 : bP ≠ bR := by omega
  clear hbP hbR
  have c5 := pr_gates hP tt
  go_wp2_with fail
  refine (KG.out _ hB hsz0).mono ?_
  rintro e v1 ⟨ga, gc, rfl, hg, hb⟩
  replace hP := hP.on hb
  replace hR := hR.on hb
  replace hB := hB.trans (hb.mono hB.size)
  have hsz1 : w.heap.size + 2 ≤ v1.heap.size := Nat.le_trans hsz0 hb.size
  clear hb c5 hsz0
  have c5 := pr_gates hP tt
  have f5 := Has.free hP 5
  go_upto_region 2 with fail
  have hP2 := pr_sl5 hP tt ga t.gn gc
  have hR2 : NN.PrAt (v1.setCell ⟨bP, 5, none⟩ (.slice ga t.gn gc)) bR prZ := Has.other hR _ _ (fun e => n1 e.symm)
  have hB2 : Below w.heap.size w (v1.setCell ⟨bP, 5, none⟩ (.slice ga t.gn gc)) := below_set hB _ _ (by rw [← HP.out]; exact Nat.le_refl _)
  have hk2 : Kp (fun i => i = bP ∨ i = bR) v1 (v1.setCell ⟨bP, 5, none⟩ (.slice ga t.gn gc)) := Kp.gb (gb_setOne v1 bP 5 _) (fun k hk => .inl (Option.some.inj hk).symm)
  have hsz2 : w.heap.size + 2 ≤ (v1.setCell ⟨bP, 5, none⟩ (.slice ga t.gn gc)).heap.size := Nat.le_trans hsz1 hk2.size
  clear hsz1
  generalize World.setCell _ _ _ = v2 at *
  clear c5 f5 hP hR hB
  have c6 := pr_checks hP2 (t := { t with ga := ga, gc := gc }) rfl
  simp only at c6
  go_wp2_with fail
  refine (KC.out _ hB2 hsz2).mono ?_
  rintro e v3 ⟨ca, cc, rfl, hk, hb⟩
  replace hP2 := hP2.on hb
  replace hR2 := hR2.on hb
  replace hB2 := hB2.trans (hb.mono hB2.size)
  replace hk2 : Kp (fun i => i = bP ∨ i = bR) v1 v3 := hk2.trans (Kp.of (F := fun i => i = bP ∨ i = bR) hb) (fun i hi _ => hi)
  clear hb c6
  have c6 := pr_checks hP2 (t := { t with ga := ga, gc := gc }) rfl
  simp only at c6
  have f6 := Has.free hP2 6
  go_upto_region 3 with fail
  have hP4 := pr_sl6 hP2 (t := { t with ga := ga, gc := gc }) rfl ca t.cn cc
  have hR4 : NN.PrAt (v3.setCell ⟨bP, 6, none⟩ (.slice ca t.cn cc)) bR prZ := Has.other hR2 _ _ (fun e => n1 e.symm)
  have hB4 : Below w.heap.size w (v3.setCell ⟨bP, 6, none⟩ (.slice ca t.cn cc)) := below_set hB2 _ _ (by rw [← HP.out]; exact Nat.le_refl _)
  have hk3 : Kp (fun i => i = bP ∨ i = bR) v3 (v3.setCell ⟨bP, 6, none⟩ (.slice ca t.cn cc)) := Kp.gb (gb_setOne v3 bP 6 _) (fun k hk => .inl (Option.some.inj hk).symm)
  generalize World.setCell _ _ _ = v4 at *
  replace hk2 := hk2.trans hk3 (fun i hi _ => hi)
  clear c6 f6 hP2 hR2 hB2
  have hP5 : NN.PrAt v4 bP (moved p t ga gc ca cc) := hP4
  clear hP4
  have z5 := NN.prA_size (moved_ok p t ht ga gc ca cc)
  have o5 : (moved p t ga gc ca cc).one := by
    intro v hv
    have hv' : v ∈ (Value.slice ga t.gn gc :: Value.slice ca t.cn cc :: (t.nn ++ hdC t.g)) := hv
    simp only [List.mem_cons] at hv'
    rcases hv' with rfl | rfl | hv'
    · rfl
    · rfl
    · exact h1 v (by rw [tt]; unfold Tl.C; simp only [List.mem_cons]; exact .inr (.inr hv'))
  obtain ⟨q, hq⟩ : ∃ q, q = moved p t ga gc ca cc := ⟨_, rfl⟩
  rw [← hq] at hP5 z5 o5
  have HQ := Lib.hid hq
  clear hq
  have HRle : Hid (w.heap.size ≤ bR) := Lib.hid (by rw [HR.out]; omega)
  go_wp2_with (first
    | (with_reducible refine NN.pr_load rfl _ rfl _ rfl hP5 z5 ?_)
    | (with_reducible refine pr_store rfl _ _ rfl _ _ q o5 rfl rfl rfl z5 hR4 z0 ?_))
  have hk5 : Kp (fun i => i = bP ∨ i = bR) v4 (v4.setRow bR (NN.prA q)) := ⟨rfl, rfl, rfl, by rw [setRow_size]; exact Nat.le_refl _, fun k _ hn => setRow_other v4 bR k _ (fun e => hn (.inr e))⟩
  refine bodyPost_ret (pr_results Tryd.results16 _ _ rfl (Has.row hR4 _) z5) rfl ⟨ga, gc, ca, cc, HQ.out ▸ rfl, ⟨v1, hg, ?_⟩, ⟨v3, hk, ?_⟩, below_setRow hB4 HRle.out _⟩
  · exact (hk2.trans hk5 (fun i hi _ => hi)).mono (fun i hi _ => hi.elim (fun h => .inl (h.trans HP.out)) (fun h => .inr (h.trans HR.out)))
  · exact (hk3.trans hk5 (fun i hi _ => hi)).mono (fun i hi _ => hi.elim (fun h => .inl (h.trans HP.out)) (fun h => .inr (h.trans HR.out)))
/-- rules that can be are copied -/
theorem copied_at (p : NN.Pr) (hp : p.ok) (h1 : p.one) (t : Tl) (tt : p.tl = t.C) (ht : t.ok) (gs : List Gt) (cs : List Ck) (hgn : t.gn = gs.length) (hcn : t.cn = cs.length) (hgl : t.gn ≤ 1000) (hcl : t.cn ≤ 1000) (w : World) (hG : GatesAt w t.ga gs) (hC : ChecksAt w t.ca cs) :
    Calls Tryd.prog 16 #[.agg (NN.prA p)] w fun e w' => ∃ ga gc ca cc, e = .returned (.agg (NN.prA (moved p t ga gc ca cc))) ∧ Sup (fun i => w.heap.size ≤ i) (fun w => GatesAt w ga gs) w' ∧ Sup (fun i => w.heap.size ≤ i) (fun w => ChecksAt w ca cs) w' ∧ Below w.heap.size w w' := by
  refine (copied_w p hp h1 t tt ht (fun w1 a => GatesAt w1 a gs ∧ (0 < gs.length → ∀ ad, a = some ad → w.heap.size + 2 ≤ ad.block)) (fun w1 a => ChecksAt w1 a cs ∧ (0 < cs.length → ∀ ad, a = some ad → w.heap.size + 2 ≤ ad.block)) w ?_ ?_).mono ?_
  · refine Lib.hid fun w' hb hs => (clone_gates t.ga t.gn t.gc gs hgn hgl w' (hG.below hb)).mono ?_
    rintro e w2 ⟨a', c', rfl, ⟨q1, q2⟩, q3⟩
    exact ⟨a', c', rfl, ⟨q1, fun h0 ad e => Nat.le_trans hs (q2 h0 ad e)⟩, q3⟩
  · refine Lib.hid fun w' hb hs => (clone_checks t.ca t.cn t.cc cs hcn hcl w' (hC.below hb)).mono ?_
    rintro e w2 ⟨a', c', rfl, ⟨q1, q2⟩, q3⟩
    exact ⟨a', c', rfl, ⟨q1, fun h0 ad e => Nat.le_trans hs (q2 h0 ad e)⟩, q3⟩
  · rintro e w' ⟨ga, gc, ca, cc, rfl, ⟨w1, ⟨q1, q2⟩, q3⟩, ⟨w2, ⟨q4, q5⟩, q6⟩, hb⟩
    refine ⟨ga, gc, ca, cc, rfl, ?_, ?_, hb⟩
    · refine (Sup.on (sup_gates (I := fun i => w.heap.size + 2 ≤ i) q1 q2) q3 (fun i hi h => ?_)).wide fun i hi => by omega
      rcases h with h | h <;> omega
    · refine (Sup.on (sup_checks (I := fun i => w.heap.size + 2 ≤ i) q4 q5) q6 (fun i hi h => ?_)).wide fun i hi => by omega
      rcases h with h | h <;> omega
end Go.Proofs.YtcgnohndfedodaaDoor.An
/-
  An entry is stored.
-/
namespace Go.Proofs.YtcgnohndfedodaaDoor.An
open Go.RowKit Mem Sc NN.Rg2
open Ar (Ent Ru entZ)
/-- what the operations of the region that appends answer -/
def StR (b : Nat) (v : Value) (e : En) (s : Sp) (bE bS : Nat) : Nat → Value → Prop
  | 0, u => u = .pointer (some ⟨b, 0, none⟩)
  | 1, u => u = .pointer (some ⟨b, 0, none⟩)
  | 2, u => u = .pointer (some ⟨b, 0, none⟩)
  | 3, u => u = .pointer (some ⟨b, 84, none⟩)
  | 4, u => u = v
  | 5, u => u = .agg (enA e)
  | 6, u => u = .agg (spA s)
  | 7, u => u = .agg (bkC e s).toArray
  | 10, u => u = .pointer (some ⟨b, 0, none⟩)
  | 11, u => u = .pointer (some ⟨b, 84, none⟩)
  | _, _ => bE = bE ∧ bS = bS
/-- and those of the region that updates the map -/
def MuR (b mb bE : Nat) (e : En) (n : Nat) : Nat → Value → Prop
  | 0, u => u = .pointer (some ⟨b, 0, none⟩)
  | 1, u => u = .pointer (some ⟨b, 0, none⟩)
  | 2, u => u = .pointer (some ⟨b, 85, none⟩)
  | 3, u => u = .map (some mb)
  | 4, u => u = .pointer (some ⟨bE, 68, none⟩)
  | 5, u => u = .agg (bytesV e.id)
  | 6, u => u = .int .i64 (n : Int)
  | _, _ => n = n
/-- what stands in it -/
def StI (v1 : World) (b : Nat) (p : NN.Pr) (room : Nat) (v : Value) (mb n : Nat) (xs : List Value) (e : En) (s : Sp) (l : Array Bool) (a : Act) (w : World) : Prop :=
  (l.getD 8 false = true → l.getD 9 false = false → ∃ g, a.eval (.tmp 21) = .slice (some ⟨g, 0, none⟩) 1 1 ∧ Has w g (bkC e s).toArray 76) ∧
  (l.getD 9 false = false → w.ownsRow 0 76 144 v n xs) ∧
  (l.getD 9 false = true → l.getD 12 false = false → ∃ v', a.eval (.tmp 22) = v' ∧ w.ownsRow 0 76 144 v' (n + 1) (xs ++ bkC e s) ∧ (v'.ownBlock = v.ownBlock ∨ ∃ g, v'.ownBlock = some g ∧ v1.heap.size ≤ g)) ∧
  (l.getD 12 false = false → Has w b (arA p room v mb) 58) ∧
  (l.getD 12 false = true → ∃ v', Has w b (arA p room v' mb) 58 ∧ w.ownsRow 0 76 144 v' (n + 1) (xs ++ bkC e s) ∧ (v'.ownBlock = v.ownBlock ∨ ∃ g, v'.ownBlock = some g ∧ v1.heap.size ≤ g))
theorem StI.keep {v1 : World} {b : Nat} {p : NN.Pr} {room : Nat} {v : Value} {mb n : Nat} {xs : List Value} {e : En} {s : Sp} {l : Array Bool} {a : Act} {w : World} (h : StI v1 b p room v mb n xs e s l a w) (i : Nat) (hi : i < l.size) (h8 : i ≠ 8) (h9 : i ≠ 9) (h12 : i ≠ 12) (d : Option Tmp) (u : Value) (hd : d ≠ some 21) (hd2 : d ≠ some 22) :
    StI v1 b p room v mb n xs e s (l.setIfInBounds i true) (a.put d u) w := by
  obtain ⟨p1, p2, p3, p4, p5⟩ := h
  unfold StI
  rw [getD_none l i 8 hi h8, getD_none l i 9 hi h9, getD_none l i 12 hi h12, Act.eval_put (fun d' hdd e => hd (by rw [hdd]; cases e; rfl)), Act.eval_put (fun d' hdd e => hd2 (by rw [hdd]; cases e; rfl))]
  exact ⟨p1, p2, p3, p4, p5⟩
set_option maxRecDepth 100000 in
set_option maxHeartbeats 4000000 in
theorem store_w (b : Nat) (p : NN.Pr) (hp : p.ok) (room : Nat) (sa : Option Addr) (n c : Nat) (mb : Nat) (xs : List Value) (e : En) (he : e.ok) (s : Sp) (hs : s.ok) (hn : n ≤ 900) (w : World) (hA : Has w b (arA p room (.slice sa n c) mb) 58) (hrow : w.ownsRow 0 76 144 (.slice sa n c) n xs) (hbv : ∀ k, (Value.slice sa n c).ownBlock = some k → k ≠ b) (hbm : b ≠ mb)
    (Q : World → World → Prop)
    (KM : Hid (∀ v2 : World, v2.heap[mb]? = w.heap[mb]? → ∃ v3, (Instr.mapUpdate 55 (.map (some mb)) (.agg (bytesV e.id)) (.int .i64 (n : Int))).run Tryd.prog v2 = .ok () v3 ∧ Q v2 v3 ∧ v2.grownBy v3 (some mb))) (hmv : ∀ k, (Value.slice sa n c).ownBlock = some k → k ≠ mb) (hml : mb < w.heap.size) :
    Calls Tryd.prog 17 #[.pointer (some ⟨b, 0, none⟩), .agg (enA e), .agg (spA s)] w fun r w' => ∃ v' v2, r = .returned (.int .i64 (n : Int)) ∧ Has w' b (arA p room v' mb) 58 ∧ w'.ownsRow 0 76 144 v' (n + 1) (xs ++ bkC e s) ∧ (v'.ownBlock = (Value.slice sa n c).ownBlock ∨ ∃ g, v'.ownBlock = some g ∧ w.heap.size ≤ g) ∧ Kp (fun i => i = b ∨ i = mb ∨ (Value.slice sa n c).ownBlock = some i) w w' ∧ Q v2 w' := by
  have z1 := enA_size he
  have z2 := enC_length he
  have z3 := spA_size hs
  have z4 := spC_length hs
  go_enter Tryd.func17, Tryd.ntmps17
  go_upto_region 1 with fail
  generalize hw0 : World.alloc _ _ = v0
  have hB : Below w.heap.size w v0 := by rw [← hw0]; exact ((Below.refl _ _).alloc (Nat.le_refl _) _).alloc (by simp) _
  have hE : EnAt v0 w.heap.size e := by rw [← hw0]; exact (Has.new _ _).alloc _
  have hS : SpAt v0 (w.heap.size + 1) s := by rw [← hw0]; exact Has.new1 _ (spA s) _
  clear hw0
  have hA0 : Has v0 b (arA p room (.slice sa n c) mb) 58 := below_has hB hA (Has.lt hA)
  have hrow0 := kp_row hrow (Kp.of (F := fun _ => False) hB) (fun _ _ h => h)
  have hbl := Has.lt hA
  have hrl : ∀ k, (Value.slice sa n c).ownBlock = some k → k < w.heap.size := fun k hk => (row_lt hrow hk).1
  have HML := Lib.hid hml
  have hMB : v0.heap[mb]? = w.heap[mb]? := hB.block mb hml
  have HW : Hid (w.heap.size ≤ v0.heap.size) := Lib.hid hB.size
  obtain ⟨bE, hbE⟩ : ∃ x, x = w.heap.size := ⟨_, rfl⟩
  obtain ⟨bS, hbS⟩ : ∃ x, x = w.heap.size + 1 := ⟨_, rfl⟩
  rw [← hbS] at hS ⊢
  have HB := Lib.hid hB
  have hbE' : ∀ k, k < w.heap.size → k ≠ bE := fun k hk e => by omega
  have hbS' : ∀ k, k < w.heap.size → k ≠ bS := fun k hk e => by omega
  have HEE : Hid (bE = w.heap.size) := Lib.hid hbE
  rw [← hbE] at hE
  clear hrow hA hB hml hbS hbE
  have hv0 := ar84 hA0 hp
  rw [← HEE.out]
  go_upto_region 2 with fail
  generalize hv1 : v0 = v1 at *
  clear hv1
  have nE1 : ∀ k, (Value.slice sa n c).ownBlock = some k → k ≠ bE := fun k hk => hbE' k (hrl k hk)
  have nS1 : ∀ k, (Value.slice sa n c).ownBlock = some k → k ≠ bS := fun k hk => hbS' k (hrl k hk)
  have nE2 := hbE' b hbl
  have nS2 := hbS' b hbl
  have hz := ar84 hA0 hp
  clear hbE' hbS' hrl
  generalize hF : (fun i => i = b ∨ (Value.slice sa n c).ownBlock = some i) = F
  have fE : ¬ F bE := by rw [← hF]; exact fun h => h.elim (fun h => nE2 h.symm) (fun h => nE1 _ h rfl)
  have fS : ¬ F bS := by rw [← hF]; exact fun h => h.elim (fun h => nS2 h.symm) (fun h => nS1 _ h rfl)
  have fb : F b := by rw [← hF]; exact .inl rfl
  have fv : ∀ k, (Value.slice sa n c).ownBlock = some k → F k := fun k hk => by rw [← hF]; exact .inr hk
  have fm : ¬ F mb := by rw [← hF]; exact fun h => h.elim (fun h => hbm h.symm) (fun h => hmv _ h rfl)
  have fl : ∀ i, F i → i < v1.heap.size := fun i hi => by
    rw [← hF] at hi
    rcases hi with rfl | hi
    · exact Has.lt hA0
    · exact (row_lt hrow0 hi).1
  have HFE := Lib.hid hF
  clear hF
  refine wp_region_inv (by kernel_rfl) (fun w' => Kp F v1 w') (fun i v' _ => StR b (.slice sa n c) e s bE bS i v') (fun l a w' => StI v1 b p room (.slice sa n c) mb n xs e s l a w') (fun _ _ => True) (fun _ _ => trivial) (fun _ _ _ _ _ _ h => h) (by kernel_rfl) (Kp.of (Below.refl _ _).drew) ?_ ?_ ?_
  · exact fun l hl => ⟨fun h => (by rw [hl] at h; cases h), fun _ => hrow0, fun h => (by rw [hl] at h; cases h), fun _ => Has.drew hA0, fun h => (by rw [hl] at h; cases h)⟩
  · intro i o listed a wx ho' hnl hdep hinv
    have hC := hinv.c
    have hI := hinv.i
    have hi : i < 13 := (Array.getElem?_eq_some_iff.1 ho').1
    have hEx : Has wx bE (enA e) 50 := hC.has hE fE
    have hSx : Has wx bS (spA s) 64 := hC.has hS fS
    have rE : wx.rangeAt bE 0 (enC e) := by
      have := range_of (A := []) (cs := enC e) (C := []) (o := 0) (w := wx) (b := bE) (t := 50) (by rw [List.append_nil]; exact hEx) rfl
      exact this
    have rS : wx.rangeAt bS 0 (spC s) := by
      have := range_of (A := []) (cs := spC s) (C := []) (o := 0) (w := wx) (b := bS) (t := 64) (by rw [List.append_nil]; exact hSx) rfl
      exact this
    have hlx : v1.heap.size ≤ wx.heap.size := hC.size
    obtain rfl | rfl | rfl | rfl | rfl | rfl | rfl | rfl | rfl | rfl | rfl | rfl | rfl : i = 0 ∨ i = 1 ∨ i = 2 ∨ i = 3 ∨ i = 4 ∨ i = 5 ∨ i = 6 ∨ i = 7 ∨ i = 8 ∨ i = 9 ∨ i = 10 ∨ i = 11 ∨ i = 12 := by omega
    all_goals obtain rfl := Option.some.inj ho'
    · have hsz : 0 < listed.size := by rw [hinv.size]; decide
      exact duty_value (C := fun w' => Kp F v1 w') (S := fun _ _ => True) (R := fun v' _ => StR b (.slice sa n c) e s bE bS 0 v') (J := fun a w' => StI v1 b p room (.slice sa n c) mb n xs e s (listed.setIfInBounds 0 true) a w') (fun _ _ => trivial) hC (wanted_free rfl) (NN.ex_move rfl) (hinv.old' 0 (by kernel_rfl)) (hI.keep 0 hsz (by decide) (by decide) (by decide) _ _ (by decide) (by decide))
    · have hsz : 1 < listed.size := by rw [hinv.size]; decide
      exact duty_value (C := fun w' => Kp F v1 w') (S := fun _ _ => True) (R := fun v' _ => StR b (.slice sa n c) e s bE bS 1 v') (J := fun a w' => StI v1 b p room (.slice sa n c) mb n xs e s (listed.setIfInBounds 1 true) a w') (fun _ _ => trivial) hC (wanted_free rfl) (NN.ex_move rfl) (hinv.old' 0 (by kernel_rfl)) (hI.keep 1 hsz (by decide) (by decide) (by decide) _ _ (by decide) (by decide))
    · have hsz : 2 < listed.size := by rw [hinv.size]; decide
      exact duty_value (C := fun w' => Kp F v1 w') (S := fun _ _ => True) (R := fun v' _ => StR b (.slice sa n c) e s bE bS 2 v') (J := fun a w' => StI v1 b p room (.slice sa n c) mb n xs e s (listed.setIfInBounds 2 true) a w') (fun _ _ => trivial) hC (wanted_free rfl) (ex_nil rfl (hinv.got 1 _ 14 rfl (hdep ⟨1, .data⟩ (by simp) rfl) rfl)) rfl (hI.keep 2 hsz (by decide) (by decide) (by decide) _ _ (by decide) (by decide))
    · have hsz : 3 < listed.size := by rw [hinv.size]; decide
      exact duty_value (C := fun w' => Kp F v1 w') (S := fun _ _ => True) (R := fun v' _ => StR b (.slice sa n c) e s bE bS 3 v') (J := fun a w' => StI v1 b p room (.slice sa n c) mb n xs e s (listed.setIfInBounds 3 true) a w') (fun _ _ => trivial) hC (wanted_free rfl) (ex_field rfl (hinv.got 2 _ 15 rfl (hdep ⟨2, .data⟩ (by simp) rfl) rfl) (afield2 wx b)) rfl (hI.keep 3 hsz (by decide) (by decide) (by decide) _ _ (by decide) (by decide))
    · have hsz : 4 < listed.size := by rw [hinv.size]; decide
      have h12 : (listed.setIfInBounds 4 true).getD 12 false = false := hinv.aheadT 12 (by kernel_rfl) hnl (by decide) (by decide)
      have hAx := hI.2.2.2.1 (by rw [← getD_none listed 4 12 hsz (by decide)]; exact h12)
      exact duty_value (C := fun w' => Kp F v1 w') (S := fun _ _ => True) (R := fun v' _ => StR b (.slice sa n c) e s bE bS 4 v') (J := fun a w' => StI v1 b p room (.slice sa n c) mb n xs e s (listed.setIfInBounds 4 true) a w') (fun _ _ => trivial) hC (wanted_free rfl) (ex_load_bks rfl (hinv.got 3 _ 16 rfl (hdep ⟨3, .data⟩ (by simp) rfl) rfl) (ar84 hAx hp)) rfl (hI.keep 4 hsz (by decide) (by decide) (by decide) _ _ (by decide) (by decide))
    · have hsz : 5 < listed.size := by rw [hinv.size]; decide
      exact duty_value (C := fun w' => Kp F v1 w') (S := fun _ _ => True) (R := fun v' _ => StR b (.slice sa n c) e s bE bS 5 v') (J := fun a w' => StI v1 b p room (.slice sa n c) mb n xs e s (listed.setIfInBounds 5 true) a w') (fun _ _ => trivial) hC (wanted_free rfl) (ex_load_en rfl (hinv.old' 4 (by kernel_rfl)) rE z2) rfl (hI.keep 5 hsz (by decide) (by decide) (by decide) _ _ (by decide) (by decide))
    · have hsz : 6 < listed.size := by rw [hinv.size]; decide
      exact duty_value (C := fun w' => Kp F v1 w') (S := fun _ _ => True) (R := fun v' _ => StR b (.slice sa n c) e s bE bS 6 v') (J := fun a w' => StI v1 b p room (.slice sa n c) mb n xs e s (listed.setIfInBounds 6 true) a w') (fun _ _ => trivial) hC (wanted_free rfl) (ex_load_sp rfl (hinv.old' 5 (by kernel_rfl)) rS z4) rfl (hI.keep 6 hsz (by decide) (by decide) (by decide) _ _ (by decide) (by decide))
    · have hsz : 7 < listed.size := by rw [hinv.size]; decide
      exact duty_value (C := fun w' => Kp F v1 w') (S := fun _ _ => True) (R := fun v' _ => StR b (.slice sa n c) e s bE bS 7 v') (J := fun a w' => StI v1 b p room (.slice sa n c) mb n xs e s (listed.setIfInBounds 7 true) a w') (fun _ _ => trivial) hC (wanted_free rfl) (ex_build_bk rfl (hinv.got 5 _ 18 rfl (hdep ⟨5, .data⟩ (by simp) rfl) rfl) (hinv.got 6 _ 19 rfl (hdep ⟨6, .data⟩ (by simp) rfl) rfl) he hs) rfl (hI.keep 7 hsz (by decide) (by decide) (by decide) _ _ (by decide) (by decide))
    · have hsz : 8 < listed.size := by rw [hinv.size]; decide
      have h9 : (listed.setIfInBounds 8 true).getD 9 false = false := hinv.aheadT 9 (by kernel_rfl) hnl (by decide) (by decide)
      have h12 : (listed.setIfInBounds 8 true).getD 12 false = false := hinv.aheadT 12 (by kernel_rfl) hnl (by decide) (by decide)
      have hbx : Below wx.heap.size wx (wx.alloc (.cells (bkC e s).toArray 76)) := (Below.refl _ _).alloc (Nat.le_refl _) _
      refine duty_made (C := fun w' => Kp F v1 w') (S := fun _ _ => True) (R := fun v' _ => StR b (.slice sa n c) e s bE bS 8 v') (J := fun a w' => StI v1 b p room (.slice sa n c) mb n xs e s (listed.setIfInBounds 8 true) a w') (wanted_free rfl) (ex_slice_bk rfl (hinv.got 7 _ 20 rfl (hdep ⟨7, .data⟩ (by simp) rfl) rfl) (by rw [List.size_toArray, bkC_length he hs])) (hC.trans (Kp.of (F := F) hbx) (fun i hi _ => hi)) trivial ⟨rfl, rfl⟩ ⟨fun _ _ => ⟨wx.heap.size, ?_, Has.new _ _⟩, fun _ => ?_, fun h => (by rw [h9] at h; cases h), fun _ => ?_, fun h => (by rw [h12] at h; cases h)⟩
      · exact put_same a 21 _ (by rw [hinv.tsize]; exact (show 21 < 33 by decide))
      · exact kp_row (hI.2.1 (by rw [← getD_none listed 8 9 hsz (by decide)]; exact h9)) (Kp.of (F := fun _ => False) hbx) (fun _ _ h => h)
      · exact Has.alloc (hI.2.2.2.1 (by rw [← getD_none listed 8 12 hsz (by decide)]; exact h12)) _
    · have hsz : 9 < listed.size := by rw [hinv.size]; decide
      have h8 : listed.getD 8 false = true := hdep ⟨8, .data⟩ (by simp) rfl
      have h9 : listed.getD 9 false = false := hnl
      have h12 : (listed.setIfInBounds 9 true).getD 12 false = false := hinv.aheadT 12 (by kernel_rfl) hnl (by decide) (by decide)
      have h12' : listed.getD 12 false = false := by rw [← getD_none listed 9 12 hsz (by decide)]; exact h12
      obtain ⟨g, hg, hgh⟩ := hI.1 h8 h9
      have hrx := hI.2.1 h9
      have hAx := hI.2.2.2.1 h12'
      obtain ⟨v', w', hr, g1, g2, g3⟩ := ex_append_bk (ρ := a.eval) (x := .tmp 17) (y := .tmp 21) he hs (hinv.got 4 _ 17 rfl (hdep ⟨4, .data⟩ (by simp) rfl) rfl) hrx hg hgh (by omega)
      refine duty_made (C := fun w' => Kp F v1 w') (S := fun _ _ => True) (R := fun v' _ => StR b (.slice sa n c) e s bE bS 9 v') (J := fun a w' => StI v1 b p room (.slice sa n c) mb n xs e s (listed.setIfInBounds 9 true) a w') (wanted_free rfl) (hr _ rfl rfl) (hC.trans (Kp.gb (F := F) g2 (fun k hk => fv k hk)) (fun i hi _ => hi)) trivial ⟨rfl, rfl⟩ ⟨fun _ h => (by rw [getD_set _ _ _ hsz, if_pos rfl] at h; cases h), fun h => (by rw [getD_set _ _ _ hsz, if_pos rfl] at h; cases h), fun _ _ => ⟨v', ?_, g1, ?_⟩, fun _ => ?_, fun h => (by rw [h12] at h; cases h)⟩
      · exact put_same a 22 _ (by rw [hinv.tsize]; exact (show 22 < 33 by decide))
      · rcases g3 with g3 | g3
        · exact .inl g3
        · exact .inr ⟨_, g3, hlx⟩
      · exact (g2.block b (Has.lt hAx) (fun hk => hbv b hk.symm rfl)).trans hAx
    · have hsz : 10 < listed.size := by rw [hinv.size]; decide
      exact duty_value (C := fun w' => Kp F v1 w') (S := fun _ _ => True) (R := fun v' _ => StR b (.slice sa n c) e s bE bS 10 v') (J := fun a w' => StI v1 b p room (.slice sa n c) mb n xs e s (listed.setIfInBounds 10 true) a w') (fun _ _ => trivial) hC (wanted_free rfl) (ex_nil rfl (hinv.got 0 _ 13 rfl (hdep ⟨0, .data⟩ (by simp) rfl) rfl)) rfl (hI.keep 10 hsz (by decide) (by decide) (by decide) _ _ (by decide) (by decide))
    · have hsz : 11 < listed.size := by rw [hinv.size]; decide
      exact duty_value (C := fun w' => Kp F v1 w') (S := fun _ _ => True) (R := fun v' _ => StR b (.slice sa n c) e s bE bS 11 v') (J := fun a w' => StI v1 b p room (.slice sa n c) mb n xs e s (listed.setIfInBounds 11 true) a w') (fun _ _ => trivial) hC (wanted_free rfl) (ex_field rfl (hinv.got 10 _ 23 rfl (hdep ⟨10, .data⟩ (by simp) rfl) rfl) (afield2 wx b)) rfl (hI.keep 11 hsz (by decide) (by decide) (by decide) _ _ (by decide) (by decide))
    · have hsz : 12 < listed.size := by rw [hinv.size]; decide
      have h9 : listed.getD 9 false = true := hdep ⟨9, .data⟩ (by simp) rfl
      obtain ⟨v', hv', hr', hl'⟩ := hI.2.2.1 h9 hnl
      have hAx := hI.2.2.2.1 hnl
      obtain ⟨a', m', c', rfl⟩ := ownsRow_slice hr'
      have hn9 : (listed.setIfInBounds 12 true).getD 9 false = true := by rw [getD_none listed 12 9 hsz (by decide)]; exact h9
      have e12 : (listed.setIfInBounds 12 true).getD 12 false = true := by rw [getD_set _ _ _ hsz, if_pos rfl]
      have nb : ∀ k, (Value.slice a' m' c').ownBlock = some k → k ≠ b := fun k hk => by
        rcases hl' with h | ⟨g, h, hg⟩
        · exact hbv k (h.symm.trans hk)
        · rw [h] at hk
          have hkg : g = k := Option.some.inj hk
          have := Has.lt hA0
          omega
      have kb : Kp (fun i => i = b) wx (wx.setCell ⟨b, 84, none⟩ (.slice a' m' c')) := Kp.gb (gb_setOne wx b 84 _) (fun k hk => (Option.some.inj hk).symm)
      refine duty_store (C := fun w' => Kp F v1 w') (S := fun _ _ => True) (R := fun v' _ => StR b (.slice sa n c) e s bE bS 12 v') (J := fun a w' => StI v1 b p room (.slice sa n c) mb n xs e s (listed.setIfInBounds 12 true) a w') (wanted_free rfl) (ex_store_bks rfl (hinv.got 11 _ 24 rfl (hdep ⟨11, .data⟩ (by simp) rfl) rfl) hv' (Has.free hAx 84) (ar84 hAx hp)) (hC.trans kb (fun i hi _ => by rw [hi]; exact fb)) trivial ⟨rfl, rfl⟩ ⟨fun _ h => (by rw [hn9] at h; cases h), fun h => (by rw [hn9] at h; cases h), fun _ h => (by rw [e12] at h; cases h), fun h => (by rw [e12] at h; cases h), fun _ => ⟨_, ar_set hAx hp _, ?_, hl'⟩⟩
      exact kp_row hr' kb fun i hi hib => nb i hi hib
  intro listed a' v2 hall hinv
  have hC := hinv.c
  obtain ⟨v', hA2, hrow2, hl2⟩ := hinv.i.2.2.2.2 (hall 12 (by decide))
  have e0 : a'.eval (.tmp 0) = .pointer (some ⟨b, 0, none⟩) := hinv.old' 0 (by kernel_rfl)
  have e4 : a'.eval (.tmp 4) = .pointer (some ⟨bE, 0, none⟩) := hinv.old' 4 (by kernel_rfl)
  have e7 : a'.eval (.tmp 7) = .int .i64 (n : Int) := hinv.old' 7 (by kernel_rfl)
  obtain ⟨u, hu⟩ : ∃ u : Nat → Value, ∀ t, u t = a'.eval (.tmp t) := ⟨_, fun _ => rfl⟩
  rw [rl_frame a' 33 u hinv.tsize hinv.defers hu]
  rw [← hu] at e0 e4 e7
  clear hu hinv hall
  show Exit.then _ _ _ (⟨#[u 0, u 1, u 2, u 3, u 4, u 5, u 6, u 7, u 8, u 9, u 10, u 11, u 12, u 13, u 14, u 15, u 16, u 17, u 18, u 19, u 20, u 21, u 22, u 23, u 24, u 25, u 26, u 27, u 28, u 29, u 30, u 31, u 32], []⟩ : Act) v2
  rw [e0, e4, e7]
  clear e0 e4 e7
  have hE2 : Has v2 bE (enA e) 50 := hC.has hE fE
  have rI : v2.rangeAt bE 68 (Lib.byteCells e.id) := range_of (A := hdC e.h) (cs := Lib.byteCells e.id) (C := .int .i64 e.up :: .int .i64 e.ht :: (NN.numC e.wk).toList) (o := 68) hE2 (hdC_length he.1)
  have hM2 : v2.heap[mb]? = w.heap[mb]? := (hC.block mb (Nat.lt_of_lt_of_le HML.out HW.out) fm).trans hMB
  have hl2' : ∀ k, v'.ownBlock = some k → k < v2.heap.size := fun k hk => (row_lt hrow2 hk).1
  have nbv : ∀ k, v'.ownBlock = some k → k ≠ mb := fun k hk => by
    rcases hl2 with h | ⟨g, h, hg⟩
    · exact hmv k (h.symm.trans hk)
    · rw [h] at hk
      have hkg : g = k := Option.some.inj hk
      have := HML.out
      have := HW.out
      omega
  have hl3 : v'.ownBlock = (Value.slice sa n c).ownBlock ∨ ∃ g, v'.ownBlock = some g ∧ w.heap.size ≤ g := by
    rcases hl2 with h | ⟨g, h, hg⟩
    · exact .inl h
    · exact .inr ⟨g, h, Nat.le_trans HW.out hg⟩
  have HA2 := Lib.hid hA2
  have HR2 := Lib.hid hrow2
  have HK := Lib.hid ((Kp.of (F := F) HB.out).trans hC (fun i hi _ => hi))
  have cb := ar85 hA2 hp
  clear hC hA0 hrow0 hz hl2 hl2' hE2 hS hrow2 hA2 hE
  obtain ⟨v3, hrun, hQ, hg3⟩ := KM.out v2.drew (by rw [← hM2]; rfl)
  go_upto_region 3 with fail
  refine wp_region_inv (by kernel_rfl) (fun _ => True) (fun i v' _ => MuR b mb bE e n i v') (fun l _ w' => Ph 7 (fun w' => w' = v2.drew) (fun w' => w' = v3) l w') (fun _ _ => True) (fun _ _ => trivial) (fun _ _ _ _ _ _ h => h) (by kernel_rfl) trivial ?_ ?_ ?_
  · exact fun l hl => Ph.zero hl rfl
  · intro i o listed a wx ho' hnl hdep hinv
    have hC := hinv.c
    have hI := hinv.i
    have hi : i < 8 := (Array.getElem?_eq_some_iff.1 ho').1
    obtain rfl | rfl | rfl | rfl | rfl | rfl | rfl | rfl : i = 0 ∨ i = 1 ∨ i = 2 ∨ i = 3 ∨ i = 4 ∨ i = 5 ∨ i = 6 ∨ i = 7 := by omega
    all_goals obtain rfl := Option.some.inj ho'
    · have hsz : 0 < listed.size := by rw [hinv.size]; decide
      exact duty_value (C := fun _ => True) (S := fun _ _ => True) (R := fun v' _ => MuR b mb bE e n 0 v') (J := fun _ w' => Ph 7 (fun w' => w' = v2.drew) (fun w' => w' = v3) (listed.setIfInBounds 0 true) w') (fun _ _ => trivial) hC (wanted_free rfl) (NN.ex_move rfl) (hinv.old' 0 (by kernel_rfl)) (hI.keep hsz (by decide))
    · have hsz : 1 < listed.size := by rw [hinv.size]; decide
      exact duty_value (C := fun _ => True) (S := fun _ _ => True) (R := fun v' _ => MuR b mb bE e n 1 v') (J := fun _ w' => Ph 7 (fun w' => w' = v2.drew) (fun w' => w' = v3) (listed.setIfInBounds 1 true) w') (fun _ _ => trivial) hC (wanted_free rfl) (ex_nil rfl (hinv.got 0 _ 25 rfl (hdep ⟨0, .data⟩ (by simp) rfl) rfl)) rfl (hI.keep hsz (by decide))
    · have hsz : 2 < listed.size := by rw [hinv.size]; decide
      exact duty_value (C := fun _ => True) (S := fun _ _ => True) (R := fun v' _ => MuR b mb bE e n 2 v') (J := fun _ w' => Ph 7 (fun w' => w' = v2.drew) (fun w' => w' = v3) (listed.setIfInBounds 2 true) w') (fun _ _ => trivial) hC (wanted_free rfl) (ex_field rfl (hinv.got 1 _ 26 rfl (hdep ⟨1, .data⟩ (by simp) rfl) rfl) (afield3 wx b)) rfl (hI.keep hsz (by decide))
    · have hsz : 3 < listed.size := by rw [hinv.size]; decide
      have hw : wx = v2.drew := hI.pre (hinv.aheadT 7 (by kernel_rfl) hnl (by decide) (by decide)) hsz (by decide)
      exact duty_value (C := fun _ => True) (S := fun _ _ => True) (R := fun v' _ => MuR b mb bE e n 3 v') (J := fun _ w' => Ph 7 (fun w' => w' = v2.drew) (fun w' => w' = v3) (listed.setIfInBounds 3 true) w') (fun _ _ => trivial) hC (wanted_free rfl) (ex_load_map rfl (hinv.got 2 _ 27 rfl (hdep ⟨2, .data⟩ (by simp) rfl) rfl) (by rw [hw]; exact cb)) rfl (hI.keep hsz (by decide))
    · have hsz : 4 < listed.size := by rw [hinv.size]; decide
      exact duty_value (C := fun _ => True) (S := fun _ _ => True) (R := fun v' _ => MuR b mb bE e n 4 v') (J := fun _ w' => Ph 7 (fun w' => w' = v2.drew) (fun w' => w' = v3) (listed.setIfInBounds 4 true) w') (fun _ _ => trivial) hC (wanted_free rfl) (ex_field rfl (hinv.old' 4 (by kernel_rfl)) (efield1 wx bE)) rfl (hI.keep hsz (by decide))
    · have hsz : 5 < listed.size := by rw [hinv.size]; decide
      have hw : wx = v2.drew := hI.pre (hinv.aheadT 7 (by kernel_rfl) hnl (by decide) (by decide)) hsz (by decide)
      exact duty_value (C := fun _ => True) (S := fun _ _ => True) (R := fun v' _ => MuR b mb bE e n 5 v') (J := fun _ w' => Ph 7 (fun w' => w' = v2.drew) (fun w' => w' = v3) (listed.setIfInBounds 5 true) w') (fun _ _ => trivial) hC (wanted_free rfl) (ex_load_hl rfl (hinv.got 4 _ 29 rfl (hdep ⟨4, .data⟩ (by simp) rfl) rfl) (by rw [hw]; exact rI) he.2) rfl (hI.keep hsz (by decide))
    · have hsz : 6 < listed.size := by rw [hinv.size]; decide
      exact duty_value (C := fun _ => True) (S := fun _ _ => True) (R := fun v' _ => MuR b mb bE e n 6 v') (J := fun _ w' => Ph 7 (fun w' => w' = v2.drew) (fun w' => w' = v3) (listed.setIfInBounds 6 true) w') (fun _ _ => trivial) hC (wanted_free rfl) (NN.ex_move rfl) (hinv.old' 7 (by kernel_rfl)) (hI.keep hsz (by decide))
    · have hsz : 7 < listed.size := by rw [hinv.size]; decide
      have hw : wx = v2.drew := hI.1 hnl
      exact duty_store (C := fun _ => True) (S := fun _ _ => True) (R := fun v' _ => MuR b mb bE e n 7 v') (J := fun _ w' => Ph 7 (fun w' => w' = v2.drew) (fun w' => w' = v3) (listed.setIfInBounds 7 true) w') (wanted_free rfl) (ex_mapUpd rfl (hinv.got 3 _ 28 rfl (hdep ⟨3, .data⟩ (by simp) rfl) rfl) (hinv.got 5 _ 30 rfl (hdep ⟨5, .data⟩ (by simp) rfl) rfl) (hinv.got 6 _ 31 rfl (hdep ⟨6, .data⟩ (by simp) rfl) rfl) (by rw [hw]; exact hrun)) trivial trivial rfl (Ph.last hsz rfl)
  intro listed a' w4 hall hinv
  obtain rfl := hinv.i.2 (hall 7 (by decide))
  have e7 : a'.eval (.tmp 7) = .int .i64 (n : Int) := hinv.old' 7 (by kernel_rfl)
  obtain ⟨u, hu⟩ : ∃ u : Nat → Value, ∀ t, u t = a'.eval (.tmp t) := ⟨_, fun _ => rfl⟩
  rw [rl_frame a' 33 u hinv.tsize hinv.defers hu]
  rw [← hu] at e7
  clear hu hinv hall
  show Exit.then _ _ _ (⟨#[u 0, u 1, u 2, u 3, u 4, u 5, u 6, u 7, u 8, u 9, u 10, u 11, u 12, u 13, u 14, u 15, u 16, u 17, u 18, u 19, u 20, u 21, u 22, u 23, u 24, u 25, u 26, u 27, u 28, u 29, u 30, u 31, u 32], []⟩ : Act) w4
  rw [e7]
  clear e7
  have hK3 : Kp (fun i => i = mb) v2 w4 := (Kp.of (F := fun i => i = mb) (Below.refl _ v2).drew).trans (Kp.gb hg3 (fun k hk => (Option.some.inj hk).symm)) (fun i hi _ => hi)
  have hA4 := hK3.has HA2.out (fun e => hbm e)
  have hR4 := kp_row HR2.out hK3 (fun i hi e => nbv i hi e)
  have HK4 : Kp (fun i => i = b ∨ i = mb ∨ (Value.slice sa n c).ownBlock = some i) w w4 := (HK.out.mono (fun i hi _ => by rw [← HFE.out] at hi; exact hi.elim .inl (fun h => .inr (.inr h)))).trans hK3 (fun i hi _ => .inr (.inl hi))
  go_wp2_with fail
  go_ret
  exact ⟨v', _, rfl, hA4, hR4, hl3, HK4, hQ⟩
end Go.Proofs.YtcgnohndfedodaaDoor.An
/-
  The entry of the genesis.
-/
namespace Go.Proofs.YtcgnohndfedodaaDoor.An
open Go.RowKit Mem Sc NN.Rg2
open Ar (Ent Ru entZ)
section
variable {ρ : Operand → Value} {o : Oper} {w : World}
theorem ex_fieldo {T : TypeId} {x : Operand} {n g off m : Nat} (ho : o.op = .fieldAddr T x n) (hx : ρ x = .pointer (some ⟨g, off, none⟩)) (hf : (Instr.fieldAt T (.pointer (some ⟨g, off, none⟩)) n).run Tryd.prog w = .ok (.pointer (some ⟨g, m, none⟩)) w) : (execOp ρ o).run Tryd.prog w = .ok (.value (.pointer (some ⟨g, m, none⟩))) w := by
  unfold execOp
  simp only [ho, hx, Sem.run_bind, hf, Result.andThen_ok]
  rfl
theorem pfield9 (w : World) (g : Nat) : (Instr.fieldAt 39 (.pointer (some ⟨g, 0, none⟩)) 9).run Tryd.prog w = .ok (.pointer (some ⟨g, 15, none⟩)) w := by kernel_rfl
theorem hfield4o (w : World) (g : Nat) : (Instr.fieldAt 37 (.pointer (some ⟨g, 15, none⟩)) 4).run Tryd.prog w = .ok (.pointer (some ⟨g, 81, none⟩)) w := by kernel_rfl
theorem ex_load_hdo {x : Operand} {g off : Nat} {h : Hd} (ho : o.op = .load 37 x) (hx : ρ x = .pointer (some ⟨g, off, none⟩)) (hg : w.rangeAt g off (hdC h)) (hs : (hdC h).length = 68) : (execOp ρ o).run Tryd.prog w = .ok (.value (.agg (hdA h))) w :=
  ex_mid 37 ho hx Tryd.underlying37 rfl (hdinfo.trans (by rw [hs])) hg
theorem ex_build_gen {x0 x1 x2 x4 : Operand} {e : En} (ho : o.op = .build 50 #[(0, x0), (1, x1), (2, x2), (4, x4)]) (he : e.ok) (h0 : e.ht = 0) (hx0 : ρ x0 = .agg (hdA e.h)) (hx1 : ρ x1 = .agg (bytesV e.id)) (hx2 : ρ x2 = .int .i64 e.up) (hx4 : ρ x4 = .agg (NN.numC e.wk)) : (execOp ρ o).run Tryd.prog w = .ok (.value (.agg (enA e))) w := by
  unfold execOp
  simp only [ho, Sem.run_bind]
  rw [show (#[(0, x0), (1, x1), (2, x2), (4, x4)] : Array (Nat × Operand)).map (fun (i, x) => (i, ρ x)) = #[(0, .agg (hdA e.h)), (1, .agg (bytesV e.id)), (2, .int .i64 e.up), (4, .agg (NN.numC e.wk))] by simp [hx0, hx1, hx2, hx4], run_build w 50 _ _ (built_gen e he h0)]
  rfl
theorem ex_store_en {x y : Operand} {g : Nat} {e : En} {cs : Array Value} (ho : o.op = .store 50 x y) (hx : ρ x = .pointer (some ⟨g, 0, none⟩)) (hy : ρ y = .agg (enA e)) (hg : Has w g cs 50) (hs : cs.size = 106) (hs' : (enA e).size = 106) : (execOp ρ o).run Tryd.prog w = .ok .skip (w.setRow g (enA e)) := by
  unfold execOp
  simp only [ho, hx, hy, Instr.storeAt, Instr.sureAddr, Sem.run_bind, Sem.run_pure, Result.andThen_ok, run_storeVar_row w g 50 50 cs (enA e) (Has.out hg) (eninfo.trans (by rw [hs'])) (by rw [hs, hs']) (enA_one e)]
end
theorem range_bits {w : World} {g o : Nat} {h : Hd} (ho : h.ok) (hr : w.rangeAt g o (hdC h)) : w.cell? ⟨g, o + 66, none⟩ = some (.int .i64 h.bits) := hr 66 _ (hdC_tail ho 1)
def GnR (bP bR : Nat) (e : En) : Nat → Value → Prop
  | 0, u => u = .pointer (some ⟨bP, 15, none⟩)
  | 1, u => u = .agg (hdA e.h)
  | 2, u => u = .pointer (some ⟨bP, 15, none⟩)
  | 3, u => u = .agg (hdA e.h)
  | 4, u => u = .agg (bytesV e.id)
  | 5, u => u = .pointer (some ⟨bP, 15, none⟩)
  | 6, u => u = .pointer (some ⟨bP, 81, none⟩)
  | 7, u => u = .int .i64 e.h.bits
  | 8, u => u = .agg (NN.numC e.wk)
  | 9, u => u = .agg (enA e)
  | _, _ => bR = bR
set_option maxRecDepth 100000 in
set_option maxHeartbeats 2000000 in
theorem genesis_w (p : NN.Pr) (t : Tl) (tt : p.tl = t.C) (ht : t.ok) (e : En) (he : e.ok) (h0 : e.ht = 0) (hu : e.up = -1) (hg : e.h = t.g) (w : World)
    (KI : Hid (∀ w', Below w.heap.size w w' → Calls Tryd.prog 27 #[.agg (hdA e.h)] w' fun r w'' => r = .returned (.agg (bytesV e.id)) ∧ Below w'.heap.size w' w''))
    (KW : Hid (∀ w', Calls Tryd.prog 28 #[.int .i64 e.h.bits] w' fun r w'' => r = .returned (.agg (NN.numC e.wk)) ∧ Below w'.heap.size w' w'')) :
    Calls Tryd.prog 18 #[.agg (NN.prA p)] w fun r w' => r = .returned (.agg (enA e)) ∧ Below w.heap.size w w' := by
  have z0 := enA_size enZ_ok
  have z1 := enA_size he
  have z2 := hdC_length he.1
  go_enter Tryd.func18, Tryd.ntmps18
  go_upto_region 1 with fail
  generalize hw0 : World.alloc _ _ = v0
  have hB : Below w.heap.size w v0 := by rw [← hw0]; exact ((Below.refl _ _).alloc (Nat.le_refl _) _).alloc (by simp) _
  have hP : NN.PrAt v0 w.heap.size p := by rw [← hw0]; exact (NN.Has.new _ _).alloc _
  have hR : EnAt v0 (w.heap.size + 1) enZ := by rw [← hw0]; exact Has.new1 _ (enA enZ) _
  clear hw0
  obtain ⟨bP, hbP⟩ : ∃ x, x = w.heap.size := ⟨_, rfl⟩
  obtain ⟨bR, hbR⟩ : ∃ x, x = w.heap.size + 1 := ⟨_, rfl⟩
  rw [← hbR] at hR ⊢
  rw [← hbP] at hP ⊢
  have hlt : bR < v0.heap.size := Has.lt hR
  have n1 : bP ≠ bR := by omega
  have HBR : Hid (w.heap.size ≤ bR) := Lib.hid (by omega)
  have HBP : Hid (bP = w.heap.size) := Lib.hid hbP
  clear hbP hbR
  refine wp_region_inv (by kernel_rfl) (fun w' => Below w.heap.size w w' ∧ NN.PrAt w' bP p) (fun i v' _ => GnR bP bR e i v') (fun l _ w' => Ph 10 (fun w' => EnAt w' bR enZ) (fun w' => EnAt w' bR e) l w') (fun _ _ => True) (fun _ _ => trivial) (fun _ _ _ _ _ _ h => h) (by kernel_rfl) ⟨hB.trans ((Below.refl _ _).drew.mono hB.size), Has.drew hP⟩ ?_ ?_ ?_
  · exact fun l hl => Ph.zero hl (Has.drew hR)
  · intro i o listed a wx ho' hnl hdep hinv
    have hC := hinv.c
    have hI := hinv.i
    have hi : i < 11 := (Array.getElem?_eq_some_iff.1 ho').1
    have rP : wx.rangeAt bP 15 (hdC e.h) := by rw [hg]; exact pr_gen hC.2 tt ht
    have rB := range_bits he.1 rP
    obtain rfl | rfl | rfl | rfl | rfl | rfl | rfl | rfl | rfl | rfl | rfl : i = 0 ∨ i = 1 ∨ i = 2 ∨ i = 3 ∨ i = 4 ∨ i = 5 ∨ i = 6 ∨ i = 7 ∨ i = 8 ∨ i = 9 ∨ i = 10 := by omega
    all_goals obtain rfl := Option.some.inj ho'
    · have hsz : 0 < listed.size := by rw [hinv.size]; decide
      exact duty_value (C := (fun w' => Below w.heap.size w w' ∧ NN.PrAt w' bP p)) (S := (fun _ _ => True)) (R := fun v' _ => GnR bP bR e 0 v') (J := fun _ w' => Ph 10 (fun w' => EnAt w' bR enZ) (fun w' => EnAt w' bR e) (listed.setIfInBounds 0 true) w') (fun _ _ => trivial) hC (wanted_free rfl) (ex_field rfl (hinv.old' 1 (by kernel_rfl)) (pfield9 wx bP)) rfl (hI.keep hsz (by decide))
    · have hsz : 1 < listed.size := by rw [hinv.size]; decide
      exact duty_value (C := (fun w' => Below w.heap.size w w' ∧ NN.PrAt w' bP p)) (S := (fun _ _ => True)) (R := fun v' _ => GnR bP bR e 1 v') (J := fun _ w' => Ph 10 (fun w' => EnAt w' bR enZ) (fun w' => EnAt w' bR e) (listed.setIfInBounds 1 true) w') (fun _ _ => trivial) hC (wanted_free rfl) (ex_load_hdo rfl (hinv.got 0 _ 3 rfl (hdep ⟨0, .data⟩ (by simp) rfl) rfl) rP z2) rfl (hI.keep hsz (by decide))
    · have hsz : 2 < listed.size := by rw [hinv.size]; decide
      exact duty_value (C := (fun w' => Below w.heap.size w w' ∧ NN.PrAt w' bP p)) (S := (fun _ _ => True)) (R := fun v' _ => GnR bP bR e 2 v') (J := fun _ w' => Ph 10 (fun w' => EnAt w' bR enZ) (fun w' => EnAt w' bR e) (listed.setIfInBounds 2 true) w') (fun _ _ => trivial) hC (wanted_free rfl) (ex_field rfl (hinv.old' 1 (by kernel_rfl)) (pfield9 wx bP)) rfl (hI.keep hsz (by decide))
    · have hsz : 3 < listed.size := by rw [hinv.size]; decide
      exact duty_value (C := (fun w' => Below w.heap.size w w' ∧ NN.PrAt w' bP p)) (S := (fun _ _ => True)) (R := fun v' _ => GnR bP bR e 3 v') (J := fun _ w' => Ph 10 (fun w' => EnAt w' bR enZ) (fun w' => EnAt w' bR e) (listed.setIfInBounds 3 true) w') (fun _ _ => trivial) hC (wanted_free rfl) (ex_load_hdo rfl (hinv.got 2 _ 5 rfl (hdep ⟨2, .data⟩ (by simp) rfl) rfl) rP z2) rfl (hI.keep hsz (by decide))
    · have hsz : 4 < listed.size := by rw [hinv.size]; decide
      have hnK : (listed.setIfInBounds 4 true).getD 10 false = false := hinv.aheadT 10 (by kernel_rfl) hnl (by decide) (by decide)
      have hpre := hI.pre hnK hsz (by decide)
      exact duty_call (C := (fun w' => Below w.heap.size w w' ∧ NN.PrAt w' bP p)) (S := (fun _ _ => True)) (R := fun v' _ => GnR bP bR e 4 v') (J := fun _ w' => Ph 10 (fun w' => EnAt w' bR enZ) (fun w' => EnAt w' bR e) (listed.setIfInBounds 4 true) w') (wanted_free rfl) (f := 27) (args := #[a.eval (.tmp 6)]) (by kernel_rfl) (by rw [show a.eval (.tmp 6) = _ from (hinv.got 3 _ 6 rfl (hdep ⟨3, .data⟩ (by simp) rfl) rfl)];  exact KI.out wx hC.1) (fun w' hb => ⟨⟨hC.1.trans (hb.mono hC.1.size), NN.PrAt.on hC.2 hb⟩, trivial, rfl, Ph.made hnK (EnAt.on hpre hb)⟩)
    · have hsz : 5 < listed.size := by rw [hinv.size]; decide
      exact duty_value (C := (fun w' => Below w.heap.size w w' ∧ NN.PrAt w' bP p)) (S := (fun _ _ => True)) (R := fun v' _ => GnR bP bR e 5 v') (J := fun _ w' => Ph 10 (fun w' => EnAt w' bR enZ) (fun w' => EnAt w' bR e) (listed.setIfInBounds 5 true) w') (fun _ _ => trivial) hC (wanted_free rfl) (ex_field rfl (hinv.old' 1 (by kernel_rfl)) (pfield9 wx bP)) rfl (hI.keep hsz (by decide))
    · have hsz : 6 < listed.size := by rw [hinv.size]; decide
      exact duty_value (C := (fun w' => Below w.heap.size w w' ∧ NN.PrAt w' bP p)) (S := (fun _ _ => True)) (R := fun v' _ => GnR bP bR e 6 v') (J := fun _ w' => Ph 10 (fun w' => EnAt w' bR enZ) (fun w' => EnAt w' bR e) (listed.setIfInBounds 6 true) w') (fun _ _ => trivial) hC (wanted_free rfl) (ex_fieldo rfl (hinv.got 5 _ 8 rfl (hdep ⟨5, .data⟩ (by simp) rfl) rfl) (hfield4o wx bP)) rfl (hI.keep hsz (by decide))
    · have hsz : 7 < listed.size := by rw [hinv.size]; decide
      exact duty_value (C := (fun w' => Below w.heap.size w w' ∧ NN.PrAt w' bP p)) (S := (fun _ _ => True)) (R := fun v' _ => GnR bP bR e 7 v') (J := fun _ w' => Ph 10 (fun w' => EnAt w' bR enZ) (fun w' => EnAt w' bR e) (listed.setIfInBounds 7 true) w') (fun _ _ => trivial) hC (wanted_free rfl) (NN.ex_load_int rfl (hinv.got 6 _ 9 rfl (hdep ⟨6, .data⟩ (by simp) rfl) rfl) rB) rfl (hI.keep hsz (by decide))
    · have hsz : 8 < listed.size := by rw [hinv.size]; decide
      have hnK : (listed.setIfInBounds 8 true).getD 10 false = false := hinv.aheadT 10 (by kernel_rfl) hnl (by decide) (by decide)
      have hpre := hI.pre hnK hsz (by decide)
      exact duty_call (C := (fun w' => Below w.heap.size w w' ∧ NN.PrAt w' bP p)) (S := (fun _ _ => True)) (R := fun v' _ => GnR bP bR e 8 v') (J := fun _ w' => Ph 10 (fun w' => EnAt w' bR enZ) (fun w' => EnAt w' bR e) (listed.setIfInBounds 8 true) w') (wanted_free rfl) (f := 28) (args := #[a.eval (.tmp 10)]) (by kernel_rfl) (by rw [show a.eval (.tmp 10) = _ from (hinv.got 7 _ 10 rfl (hdep ⟨7, .data⟩ (by simp) rfl) rfl)];  exact KW.out wx) (fun w' hb => ⟨⟨hC.1.trans (hb.mono hC.1.size), NN.PrAt.on hC.2 hb⟩, trivial, rfl, Ph.made hnK (EnAt.on hpre hb)⟩)
    · have hsz : 9 < listed.size := by rw [hinv.size]; decide
      exact duty_value (C := (fun w' => Below w.heap.size w w' ∧ NN.PrAt w' bP p)) (S := (fun _ _ => True)) (R := fun v' _ => GnR bP bR e 9 v') (J := fun _ w' => Ph 10 (fun w' => EnAt w' bR enZ) (fun w' => EnAt w' bR e) (listed.setIfInBounds 9 true) w') (fun _ _ => trivial) hC (wanted_free rfl) (ex_build_gen rfl he h0 (hinv.got 1 _ 4 rfl (hdep ⟨1, .data⟩ (by simp) rfl) rfl) (hinv.got 4 _ 7 rfl (hdep ⟨4, .data⟩ (by simp) rfl) rfl) (by rw [hu]; rfl) (hinv.got 8 _ 11 rfl (hdep ⟨8, .data⟩ (by simp) rfl) rfl)) rfl (hI.keep hsz (by decide))
    · have hsz : 10 < listed.size := by rw [hinv.size]; decide
      have hR0 := hI.1 hnl
      exact duty_store (C := (fun w' => Below w.heap.size w w' ∧ NN.PrAt w' bP p)) (S := (fun _ _ => True)) (R := fun v' _ => GnR bP bR e 10 v') (J := fun _ w' => Ph 10 (fun w' => EnAt w' bR enZ) (fun w' => EnAt w' bR e) (listed.setIfInBounds 10 true) w') (wanted_free rfl) (ex_store_en rfl (hinv.old' 2 (by kernel_rfl)) (hinv.got 9 _ 12 rfl (hdep ⟨9, .data⟩ (by simp) rfl) rfl) hR0 z0 z1) ⟨below_setRow hC.1 HBR.out _, NN.Has.otherRow hC.2 _ _ n1⟩ trivial rfl (Ph.last hsz (Has.row hR0 _))
  intro listed a' v1 hall hinv
  have hC := hinv.c
  have hE := hinv.i.2 (hall 10 (by decide))
  have e2 : a'.eval (.tmp 2) = .pointer (some ⟨bR, 0, none⟩) := hinv.old' 2 (by kernel_rfl)
  obtain ⟨u, hu⟩ : ∃ u : Nat → Value, ∀ t, u t = a'.eval (.tmp t) := ⟨_, fun _ => rfl⟩
  rw [rl_frame a' 13 u hinv.tsize hinv.defers hu]
  rw [← hu] at e2
  clear hu hinv hall
  show Exit.then _ _ _ (⟨#[u 0, u 1, u 2, u 3, u 4, u 5, u 6, u 7, u 8, u 9, u 10, u 11, u 12], []⟩ : Act) v1
  rw [e2]
  clear e2
  go_wp2_with fail
  refine bodyPost_ret (en_results Tryd.results18 _ _ rfl hE z1) rfl ⟨rfl, hC.1⟩
end Go.Proofs.YtcgnohndfedodaaDoor.An
/-
  Storing, over an arena as a whole.
-/
namespace Go.Proofs.YtcgnohndfedodaaDoor.An
open Go.RowKit Mem Sc
open Ar (Ent Ru entZ)
theorem Sup.clip {w : World} {lo : Nat} {P : World → Prop} (h : Sup (fun i => lo ≤ i) P w) : Sup (fun i => lo ≤ i ∧ i < w.heap.size) P w := fun w' k => h w' (k.mono fun _ hi hl => fun h => hi ⟨h, hl⟩)
theorem store_at {w : World} {I : Nat → Prop} {b : Nat} {p : NN.Pr} {t : Tl} {gs : List Gt} {cs : List Ck} {room : Nat} {v : Value} {mb : Nat} {L : List Bk} (h : Ara w I b p t gs cs room v mb L) (x : Bk) (he : x.e.ok) (hs : x.s.ok) (J : Nat → Prop) (hJ : Sup J (fun w => SpIs w 0 x.s x.q) w) (hJl : ∀ i, J i → i < w.heap.size) (hJb : ∀ i, J i → ¬ (i = b ∨ i = mb ∨ v.ownBlock = some i)) (hn : L.length ≤ 900) (hf : (L.map (·.e.id)).findIdx? (· == x.e.id) = none) :
    Calls Tryd.prog 17 #[.pointer (some ⟨b, 0, none⟩), .agg (enA x.e), .agg (spA x.s)] w fun r w' => ∃ v', r = .returned (.int .i64 (L.length : Nat)) ∧ Ara w' (fun i => I i ∨ J i) b p t gs cs room v' mb (L ++ [x]) ∧ Kp (fun i => i = b ∨ i = mb ∨ v.ownBlock = some i) w w' ∧ (v'.ownBlock = v.ownBlock ∨ ∃ g, v'.ownBlock = some g ∧ w.heap.size ≤ g) := by
  obtain ⟨sa, c, rfl⟩ := h.slice
  refine (store_w b p h.pok room sa L.length c mb (rowC L) x.e he x.s hs hn w h.has h.row (fun k hk => h.b_ne_v hk) h.b_ne_mb (fun _ v3 => MapIs v3 mb (L.map (·.e.id) ++ [x.e.id])) ?_ (fun k hk => h.mb_ne_v hk) h.map.lt).mono ?_
  · refine Lib.hid fun v2 hv2 => ?_
    obtain ⟨w', h1, h2, h3⟩ := (h.map.on hv2).put he.2 hf (by rw [List.length_map]; omega) L.length (by rw [List.length_map])
    exact ⟨w', h1, h2, h3⟩
  · rintro r w' ⟨v', v2, rfl, hA, hR, hl, hK, hM⟩
    have hI : ∀ i, I i → ¬ (i = b ∨ i = mb ∨ (Value.slice sa L.length c).ownBlock = some i) := fun i hi e => by
      rcases e with rfl | rfl | e
      · exact h.nb hi
      · exact h.nm hi
      · exact h.nv _ e hi
    refine ⟨v', rfl, ?_, hK, hl⟩
    refine { has := hA, pok := h.pok, one := h.one, tt := h.tt, tok := h.tok, gn := h.gn, cn := h.cn, row := ?_, map := ?_, gates := ?_, checks := ?_, spots := ?_, nb := ?_, nm := ?_, nv := ?_, lt := ?_, good := ?_ }
    · rw [rowC_app, List.length_append]; exact hR
    · rw [List.map_append]; exact hM
    · exact (h.gates.on hK hI).wide fun i hi => .inl hi
    · exact (h.checks.on hK hI).wide fun i hi => .inl hi
    · intro y hy
      rcases List.mem_append.1 hy with hy | hy
      · exact ((h.spots y hy).on hK hI).wide fun i hi => .inl hi
      · obtain rfl : y = x := by simpa using hy
        exact (hJ.on hK hJb).wide fun i hi => .inr hi
    · exact fun e => e.elim h.nb fun e => hJb b e (.inl rfl)
    · exact fun e => e.elim h.nm fun e => hJb mb e (.inr (.inl rfl))
    · intro k hk e
      rcases hl with hl | ⟨g, hl, hg⟩
      · exact e.elim (h.nv k (hl.symm.trans hk)) fun e => hJb k e (.inr (.inr (hl.symm.trans hk)))
      · rw [hl] at hk
        have hkg : g = k := Option.some.inj hk
        have : k < w.heap.size := e.elim (h.lt k) (hJl k)
        omega
    · exact fun i hi => Nat.lt_of_lt_of_le (hi.elim (h.lt i) (hJl i)) hK.size
    · intro y hy
      rcases List.mem_append.1 hy with hy | hy
      · exact h.good y hy
      · obtain rfl : y = x := by simpa using hy
        exact ⟨he, hs⟩
/-- an arena in which nothing is stored as yet -/
theorem Ara.made {w : World} {I : Nat → Prop} {b : Nat} {p : NN.Pr} {t : Tl} {gs : List Gt} {cs : List Ck} {room mb : Nat} (hA : Has w b (arA p room (.slice none 0 0) mb) 58) (pok : p.ok) (one : p.one) (tt : p.tl = t.C) (tok : t.ok) (gn : t.gn = gs.length) (cn : t.cn = cs.length) (hM : MapIs w mb []) (hG : Sup I (fun w => GatesAt w t.ga gs) w) (hC : Sup I (fun w => ChecksAt w t.ca cs) w) (nb : ¬ I b) (nm : ¬ I mb) (hl : ∀ i, I i → i < w.heap.size) : Ara w I b p t gs cs room (.slice none 0 0) mb [] :=
  { has := hA, pok := pok, one := one, tt := tt, tok := tok, gn := gn, cn := cn, row := World.ownsRow_nil _ _ _ _, map := hM, gates := hG, checks := hC, spots := fun x hx => (by cases hx), nb := nb, nm := nm, nv := fun k hk => (by cases hk), lt := hl, good := fun x hx => (by cases hx) }
end Go.Proofs.YtcgnohndfedodaaDoor.An
/-
  New: an arena with the genesis.
-/
namespace Go.Proofs.YtcgnohndfedodaaDoor.An
open Go.RowKit Mem Sc NN.Rg2
open Ar (Ent Ru entZ)
theorem duty_call_mem {P : Program} {ops : Array Oper} {o : Oper} {a : Act} {w : World} {Q : Exit → Act → World → Prop} {C : World → Prop} {S : World → World → Prop} {R : Value → World → Prop} {J : Act → World → Prop} {V : Value → World → Prop} {f : FuncId} {args : Array Value} (hn : Region.wanted o (yielded ops a.tmps) = true) (h : (execOp a.eval o).run P w = .ok (.enter f args) w) (hcall : Calls P f args w fun e w' => ∃ v, e = .returned v ∧ V v w' ∧ Below w.heap.size w w')
    (hr : ∀ v w', V v w' → Below w.heap.size w w' → C w' ∧ S w w' ∧ R v w' ∧ J (a.put o.dst v) w') :
    if Region.wanted o (yielded ops a.tmps) = true then o.wp P a w (fun a' w' => C w' ∧ S w w' ∧ ∃ v, a' = a.put o.dst v ∧ R v w' ∧ J a' w') Q else R undef w ∧ J (a.put o.dst undef) w := by
  rw [if_pos hn]
  unfold Oper.wp
  rw [h]
  refine Calls.mono hcall fun e w' he => ?_
  obtain ⟨v, rfl, hv, hb⟩ := he
  obtain ⟨h1, h2, h3, h4⟩ := hr v w' hv hb
  exact ⟨h1, h2, v, rfl, h3, h4⟩
set_option maxRecDepth 100000 in
theorem new_bad (p : NN.Pr) (hp : p.ok) (room : Int) (w : World) (KG : Hid (∀ w', Below w.heap.size w w' → Calls Tryd.prog 15 #[.agg (NN.prA p)] w' fun e w'' => e = .returned (.bool false) ∧ Below w'.heap.size w' w'')) :
    Calls Tryd.prog 11 #[.agg (NN.prA p), .int .i64 room] w fun e w' => e = .returned (.tuple #[.pointer none, .int .i64 1]) ∧ Below w.heap.size w w' := by
  have hz := NN.prA_size hp
  go_enter Tryd.func11, Tryd.ntmps11
  go_upto_region 1 with fail
  generalize hw0 : World.alloc _ _ = v0
  have hB : Below w.heap.size w v0 := by rw [← hw0]; exact (Below.refl _ _).alloc (Nat.le_refl _) _
  have hP : NN.PrAt v0 w.heap.size p := by rw [← hw0]; exact NN.Has.new _ _
  clear hw0
  go_wp2_with (first | fail | (with_reducible refine NN.pr_load rfl _ rfl _ rfl hP hz ?_))
  refine (KG.out _ hB).mono ?_
  rintro e v1 ⟨rfl, hb⟩
  replace hB := hB.trans (hb.mono hB.size)
  clear hb hP
  go_wp2_with fail
  go_ret2
  exact ⟨rfl, hB⟩
theorem ar_build {w : World} {ops : Array Oper} {rest : List Oper} {o : Oper} {a : Act} {Q : Exit → Act → World → Prop} (hgd : o.guard = none) (x0 x1 x3 : Operand) (ho : o.op = .build 58 #[(0, x0), (1, x1), (3, x3)]) (p : NN.Pr) (hp : p.ok) (room mb : Nat) (h0 : a.eval x0 = .agg (NN.prA p)) (h1 : a.eval x1 = .int .i64 (room : Int)) (h3 : a.eval x3 = .map (some mb))
    (hk : wpList Tryd.prog ops Q rest (a.put o.dst (.agg (arA p room (.slice none 0 0) mb))) w) : wpList Tryd.prog ops Q (o :: rest) a w :=
  wpList_plain hgd fun _ hK => by
    unfold Oper.wp execOp
    simp only [ho, Sem.run_bind]
    rw [show (#[(0, x0), (1, x1), (3, x3)] : Array (Nat × Operand)).map (fun (i, x) => (i, a.eval x)) = #[(0, .agg (NN.prA p)), (1, .int .i64 (room : Int)), (3, .map (some mb))] by simp [h0, h1, h3], run_build w 58 _ _ (built_arena p hp room mb)]
    exact hK _ _ hk
theorem duty_call_any {P : Program} {ops : Array Oper} {o : Oper} {a : Act} {w : World} {Q : Exit → Act → World → Prop} {C : World → Prop} {S : World → World → Prop} {R : Value → World → Prop} {J : Act → World → Prop} {f : FuncId} {args : Array Value} (hn : Region.wanted o (yielded ops a.tmps) = true) (h : (execOp a.eval o).run P w = .ok (.enter f args) w) (hcall : Calls P f args w fun e w' => ∃ v, e = .returned v ∧ C w' ∧ S w w' ∧ R v w' ∧ J (a.put o.dst v) w') :
    if Region.wanted o (yielded ops a.tmps) = true then o.wp P a w (fun a' w' => C w' ∧ S w w' ∧ ∃ v, a' = a.put o.dst v ∧ R v w' ∧ J a' w') Q else R undef w ∧ J (a.put o.dst undef) w := by
  rw [if_pos hn]
  unfold Oper.wp
  rw [h]
  refine Calls.mono hcall fun e w' he => ?_
  obtain ⟨v, rfl, h1, h2, h3, h4⟩ := he
  exact ⟨h1, h2, v, rfl, h3, h4⟩
def NwR (v1 : World) (bA : Nat) (p : NN.Pr) (e : En) (q : Ps) : Nat → Value → World → Prop
  | 0, u, _ => u = .pointer (some ⟨bA, 0, none⟩)
  | 1, u, _ => u = .agg (NN.prA p)
  | 2, u, _ => u = .agg (enA e)
  | 3, u, _ => u = .agg (NN.prA p)
  | 4, u, w => ∃ s : Sp, u = .agg (spA s) ∧ s.ok ∧ Sup (fun i => v1.heap.size ≤ i) (fun w => SpIs w 0 s q) w
  | _, _, _ => bA = bA
theorem NwR_stays {v1 : World} {bA : Nat} {p : NN.Pr} {e : En} {q : Ps} {G : Nat → Prop} (hG : ∀ i, G i → i < v1.heap.size) : ∀ (i : Nat) (u : Value) (w w' : World), Kp G w w' → NwR v1 bA p e q i u w → NwR v1 bA p e q i u w'
  | 0, _, _, _, _, h => h
  | 1, _, _, _, _, h => h
  | 2, _, _, _, _, h => h
  | 3, _, _, _, _, h => h
  | 4, _, _, _, hk, ⟨s, h1, h2, h3⟩ => ⟨s, h1, h2, h3.on hk fun i hi hg => absurd (hG i hg) (by omega)⟩
  | _ + 5, _, _, _, _, h => h
set_option maxRecDepth 100000 in
set_option maxHeartbeats 4000000 in
theorem new_w (p : NN.Pr) (hp : p.ok) (t : Tl) (room m1 : Int) (R : Nat) (hm1 : m1 = max room 1) (hR : (R : Int) = min m1 512) (gs : List Gt) (cs : List Ck) (e : En) (he : e.ok) (q : Ps) (q32 : q.prev.length = 32) (w : World)
    (KG : Hid (∀ w', Below w.heap.size w w' → Calls Tryd.prog 15 #[.agg (NN.prA p)] w' fun e w'' => e = .returned (.bool true) ∧ Below w'.heap.size w' w''))
    (KC : Hid (∀ w', Below w.heap.size w w' → Calls Tryd.prog 16 #[.agg (NN.prA p)] w' fun e w'' => ∃ (p' : NN.Pr) (t' : Tl), e = .returned (.agg (NN.prA p')) ∧ (p'.ok ∧ p'.one ∧ p'.tl = t'.C ∧ t'.ok ∧ t'.gn = gs.length ∧ t'.cn = cs.length ∧ p'.lim = p.lim ∧ p'.ivl = p.ivl ∧ p'.spc = p.spc ∧ p'.fut = p.fut ∧ p'.easy = p.easy ∧ t'.g = t.g) ∧ Sup (fun i => w'.heap.size ≤ i) (fun w => GatesAt w t'.ga gs) w'' ∧ Sup (fun i => w'.heap.size ≤ i) (fun w => ChecksAt w t'.ca cs) w'' ∧ Below w'.heap.size w' w''))
    (KE : Hid (∀ w', Below w.heap.size w w' → Calls Tryd.prog 18 #[.agg (NN.prA p)] w' fun r w'' => r = .returned (.agg (enA e)) ∧ Below w'.heap.size w' w''))
    (KB : Hid (∀ w', Below w.heap.size w w' → Calls Tryd.prog 19 #[.agg (NN.prA p)] w' fun r w'' => ∃ s, r = .returned (.agg (spA s)) ∧ (spA s).size = 38 ∧ SpIs w'' w'.heap.size s q ∧ Below w'.heap.size w' w'')) :
    Calls Tryd.prog 11 #[.agg (NN.prA p), .int .i64 room] w fun r w' => ∃ b I p' t' v mb x, r = .returned (.tuple #[.pointer (some ⟨b, 0, none⟩), .int .i64 0]) ∧ Ara w' I b p' t' gs cs R v mb [x] ∧ x.e = e ∧ x.q = q ∧ (p'.lim = p.lim ∧ p'.ivl = p.ivl ∧ p'.spc = p.spc ∧ p'.fut = p.fut ∧ p'.easy = p.easy ∧ t'.g = t.g) ∧ (∀ i, Mine I b v mb i → w.heap.size ≤ i) ∧ Below w.heap.size w w' := by
  have hz := NN.prA_size hp
  go_enter Tryd.func11, Tryd.ntmps11
  go_upto_region 1 with fail
  generalize hw0 : World.alloc _ _ = v0
  have hB : Below w.heap.size w v0 := by rw [← hw0]; exact (Below.refl _ _).alloc (Nat.le_refl _) _
  have hP : NN.PrAt v0 w.heap.size p := by rw [← hw0]; exact NN.Has.new _ _
  have hs0 : w.heap.size + 1 ≤ v0.heap.size := by rw [← hw0]; simp
  clear hw0
  obtain ⟨bP, hbP⟩ : ∃ x, x = w.heap.size := ⟨_, rfl⟩
  rw [← hbP] at hP ⊢
  have HBP : Hid (bP = w.heap.size) := Lib.hid hbP
  clear hbP
  go_wp2_with (first | fail | (with_reducible refine NN.pr_load rfl _ rfl _ rfl hP hz ?_))
  refine (KG.out _ hB).mono ?_
  rintro r v1 ⟨rfl, hb⟩
  replace hP := hP.on hb
  replace hB := hB.trans (hb.mono hB.size)
  have hs1 : w.heap.size + 1 ≤ v1.heap.size := Nat.le_trans hs0 hb.size
  clear hb hs0
  go_wp2_with (first | fail | (with_reducible refine NN.pr_load rfl _ rfl _ rfl hP hz ?_))
  refine (KC.out _ hB).mono ?_
  rintro r v2 ⟨p', t', rfl, ⟨p1, p2, p3, p4, p5, p6, a1, a2, a3, a4, a5, a6⟩, hG, hC, hb⟩
  replace hP := hP.on hb
  replace hB := hB.trans (hb.mono hB.size)
  have hs2 : w.heap.size + 1 ≤ v2.heap.size := Nat.le_trans hs1 hb.size
  have HS12 : Hid (v1.heap.size ≤ v2.heap.size) := Lib.hid hb.size
  have HS1 := Lib.hid hs1
  clear hb hs1
  have hmax := NN.max_is (P := Tryd.prog) room 1 m1 hm1
  have hmin := NN.min_is (P := Tryd.prog) m1 512 (R : Int) hR
  clear hm1 hR
  have hmk : ∀ w : World, (Instr.makeMap 55 none).run Tryd.prog w = .ok (.map (some w.heap.size)) (w.alloc (.map #[] 0)) := fun _ => by kernel_rfl
  go_upto_region 4 with (first | (with_reducible refine NN.pr_load rfl _ rfl _ rfl hP hz ?_) | (with_reducible refine ar_build rfl _ _ _ rfl p' p1 R v2.heap.size rfl rfl rfl ?_))
  have hMz : (v2.alloc (.map #[] 0)).heap.size = v2.heap.size + 1 := by simp
  have hA3 : Has ((v2.alloc (.map #[] 0)).alloc (.cells (arA p' R (.slice none 0 0) v2.heap.size) 58)) (v2.heap.size + 1) (arA p' R (.slice none 0 0) v2.heap.size) 58 := by rw [← hMz]; exact Has.new _ _
  have hb3 : Below v2.heap.size v2 ((v2.alloc (.map #[] 0)).alloc (.cells (arA p' R (.slice none 0 0) v2.heap.size) 58)) := ((Below.refl _ _).alloc (Nat.le_refl _) _).alloc (by simp) _
  have hM3 : MapIs ((v2.alloc (.map #[] 0)).alloc (.cells (arA p' R (.slice none 0 0) v2.heap.size) 58)) v2.heap.size [] := (MapIs.made v2).on (heap_alloc_old _ _ (by simp))
  obtain ⟨mb, hmb⟩ : ∃ x, x = v2.heap.size := ⟨_, rfl⟩
  obtain ⟨bA, hbA⟩ : ∃ x, x = v2.heap.size + 1 := ⟨_, rfl⟩
  rw [← hbA] at hA3 ⊢
  rw [← hmb] at hA3 hM3 hb3 ⊢
  have hs3 : ((v2.alloc (.map #[] 0)).alloc (.cells (arA p' R (.slice none 0 0) mb) 58)).heap.size = v2.heap.size + 2 := by simp
  generalize hv3 : World.alloc (World.alloc v2 _) _ = v3 at *
  have hA : Ara v3 (fun i => v1.heap.size ≤ i ∧ i < v2.heap.size) bA p' t' gs cs R (.slice none 0 0) mb [] := Ara.made hA3 p1 p2 p3 p4 p5 p6 hM3 (hG.clip.on (G := fun _ => False) (Kp.of (hmb ▸ hb3)) (fun _ _ h => h)) (hC.clip.on (G := fun _ => False) (Kp.of (hmb ▸ hb3)) (fun _ _ h => h)) (fun h => by omega) (fun h => by omega) (fun i hi => by rw [hs3]; omega)
  have hP3 : NN.PrAt v3 bP p := hP.on (hmb ▸ hb3)
  have hB3 : Below w.heap.size w v3 := hB.trans (hb3.mono (by rw [hmb]; exact hB.size))
  have HF : Hid (∀ i, (i = bA ∨ i = mb) → i < v3.heap.size) := Lib.hid fun i hi => by rw [hs3]; omega
  have HL : Hid (w.heap.size ≤ v1.heap.size ∧ w.heap.size ≤ mb ∧ w.heap.size ≤ bA ∧ w.heap.size ≤ v3.heap.size ∧ bP ≠ bA ∧ bP ≠ mb) := Lib.hid (by rw [hs3]; have := HS1.out; have := HBP.out; omega)
  clear hA3 hM3 hb3 hs3 hMz hmk hmax hmin hG hC hP hB hmb hbA hv3
  refine wp_region_inv (by kernel_rfl) (fun w' => (Below w.heap.size w w' ∧ v3.heap.size ≤ w'.heap.size) ∧ NN.PrAt w' bP p) (fun i v' w' => NwR v3 bA p e q i v' w') (fun l _ w' => Ph 5 (fun w' => Ara w' (fun i => v1.heap.size ≤ i ∧ i < v2.heap.size) bA p' t' gs cs R (.slice none 0 0) mb []) (fun w' => ∃ I v x, Ara w' I bA p' t' gs cs R v mb [x] ∧ x.e = e ∧ x.q = q ∧ ∀ i, Mine I bA v mb i → w.heap.size ≤ i) l w') (fun w w' => Kp (fun i => i = bA ∨ i = mb) w w') (fun w' _ => Kp.refl _ w') (fun i v w w' _ hs h => NwR_stays HF.out i v w w' hs h) (by kernel_rfl) ⟨⟨hB3.trans ((Below.refl _ _).drew.mono hB3.size), (Below.refl v3.heap.size v3).drew.size⟩, NN.Has.drew hP3⟩ ?_ ?_ ?_
  · exact fun l hl => Ph.zero hl (hA.below (Below.refl _ _).drew)
  · intro i o listed a wx ho' hnl hdep hinv
    have hC := hinv.c
    have hI := hinv.i
    have hi : i < 6 := (Array.getElem?_eq_some_iff.1 ho').1
    obtain rfl | rfl | rfl | rfl | rfl | rfl : i = 0 ∨ i = 1 ∨ i = 2 ∨ i = 3 ∨ i = 4 ∨ i = 5 := by omega
    all_goals obtain rfl := Option.some.inj ho'
    · have hsz : 0 < listed.size := by rw [hinv.size]; decide
      exact duty_value (C := (fun w' => (Below w.heap.size w w' ∧ v3.heap.size ≤ w'.heap.size) ∧ NN.PrAt w' bP p)) (S := (fun w w' => Kp (fun i => i = bA ∨ i = mb) w w')) (R := fun v' w' => NwR v3 bA p e q 0 v' w') (J := fun _ w' => Ph 5 (fun w' => Ara w' (fun i => v1.heap.size ≤ i ∧ i < v2.heap.size) bA p' t' gs cs R (.slice none 0 0) mb []) (fun w' => ∃ I v x, Ara w' I bA p' t' gs cs R v mb [x] ∧ x.e = e ∧ x.q = q ∧ ∀ i, Mine I bA v mb i → w.heap.size ≤ i) (listed.setIfInBounds 0 true) w') (fun w' _ => Kp.refl _ w') hC (wanted_free rfl) (NN.ex_move rfl) (hinv.old' 6 (by kernel_rfl)) (hI.keep hsz (by decide))
    · have hsz : 1 < listed.size := by rw [hinv.size]; decide
      exact duty_value (C := (fun w' => (Below w.heap.size w w' ∧ v3.heap.size ≤ w'.heap.size) ∧ NN.PrAt w' bP p)) (S := (fun w w' => Kp (fun i => i = bA ∨ i = mb) w w')) (R := fun v' w' => NwR v3 bA p e q 1 v' w') (J := fun _ w' => Ph 5 (fun w' => Ara w' (fun i => v1.heap.size ≤ i ∧ i < v2.heap.size) bA p' t' gs cs R (.slice none 0 0) mb []) (fun w' => ∃ I v x, Ara w' I bA p' t' gs cs R v mb [x] ∧ x.e = e ∧ x.q = q ∧ ∀ i, Mine I bA v mb i → w.heap.size ≤ i) (listed.setIfInBounds 1 true) w') (fun w' _ => Kp.refl _ w') hC (wanted_free rfl) (NN.ex_load_pr rfl (hinv.old' 2 (by kernel_rfl)) hC.2 hz) rfl (hI.keep hsz (by decide))
    · have hsz : 2 < listed.size := by rw [hinv.size]; decide
      have hnK : (listed.setIfInBounds 2 true).getD 5 false = false := hinv.aheadT 5 (by kernel_rfl) hnl (by decide) (by decide)
      have hpre := hI.pre hnK hsz (by decide)
      exact duty_call (C := (fun w' => (Below w.heap.size w w' ∧ v3.heap.size ≤ w'.heap.size) ∧ NN.PrAt w' bP p)) (S := (fun w w' => Kp (fun i => i = bA ∨ i = mb) w w')) (R := fun v' w' => NwR v3 bA p e q 2 v' w') (J := fun _ w' => Ph 5 (fun w' => Ara w' (fun i => v1.heap.size ≤ i ∧ i < v2.heap.size) bA p' t' gs cs R (.slice none 0 0) mb []) (fun w' => ∃ I v x, Ara w' I bA p' t' gs cs R v mb [x] ∧ x.e = e ∧ x.q = q ∧ ∀ i, Mine I bA v mb i → w.heap.size ≤ i) (listed.setIfInBounds 2 true) w') (wanted_free rfl) (f := 18) (args := #[a.eval (.tmp 19)]) (by kernel_rfl) (by rw [show a.eval (.tmp 19) = _ from (hinv.got 1 _ 19 rfl (hdep ⟨1, .data⟩ (by simp) rfl) rfl)];  exact KE.out wx hC.1.1) (fun w' hb => ⟨⟨⟨hC.1.1.trans (hb.mono hC.1.1.size), Nat.le_trans hC.1.2 hb.size⟩, NN.PrAt.on hC.2 hb⟩, Kp.of hb, rfl, Ph.made hnK (hpre.below hb)⟩)
    · have hsz : 3 < listed.size := by rw [hinv.size]; decide
      exact duty_value (C := (fun w' => (Below w.heap.size w w' ∧ v3.heap.size ≤ w'.heap.size) ∧ NN.PrAt w' bP p)) (S := (fun w w' => Kp (fun i => i = bA ∨ i = mb) w w')) (R := fun v' w' => NwR v3 bA p e q 3 v' w') (J := fun _ w' => Ph 5 (fun w' => Ara w' (fun i => v1.heap.size ≤ i ∧ i < v2.heap.size) bA p' t' gs cs R (.slice none 0 0) mb []) (fun w' => ∃ I v x, Ara w' I bA p' t' gs cs R v mb [x] ∧ x.e = e ∧ x.q = q ∧ ∀ i, Mine I bA v mb i → w.heap.size ≤ i) (listed.setIfInBounds 3 true) w') (fun w' _ => Kp.refl _ w') hC (wanted_free rfl) (NN.ex_load_pr rfl (hinv.old' 2 (by kernel_rfl)) hC.2 hz) rfl (hI.keep hsz (by decide))
    · have hsz : 4 < listed.size := by rw [hinv.size]; decide
      have hnK : (listed.setIfInBounds 4 true).getD 5 false = false := hinv.aheadT 5 (by kernel_rfl) hnl (by decide) (by decide)
      have hpre := hI.pre hnK hsz (by decide)
      exact duty_call_mem (V := fun v w' => ∃ s, v = .agg (spA s) ∧ (spA s).size = 38 ∧ SpIs w' wx.heap.size s q) (C := (fun w' => (Below w.heap.size w w' ∧ v3.heap.size ≤ w'.heap.size) ∧ NN.PrAt w' bP p)) (S := (fun w w' => Kp (fun i => i = bA ∨ i = mb) w w')) (R := fun v' w' => NwR v3 bA p e q 4 v' w') (J := fun _ w' => Ph 5 (fun w' => Ara w' (fun i => v1.heap.size ≤ i ∧ i < v2.heap.size) bA p' t' gs cs R (.slice none 0 0) mb []) (fun w' => ∃ I v x, Ara w' I bA p' t' gs cs R v mb [x] ∧ x.e = e ∧ x.q = q ∧ ∀ i, Mine I bA v mb i → w.heap.size ≤ i) (listed.setIfInBounds 4 true) w') (wanted_free rfl) (f := 19) (args := #[a.eval (.tmp 21)]) (by kernel_rfl) (by
        rw [show a.eval (.tmp 21) = _ from (hinv.got 3 _ 21 rfl (hdep ⟨3, .data⟩ (by simp) rfl) rfl)]
        refine (KB.out wx hC.1.1).mono ?_
        rintro r w' ⟨s, rfl, h1, h2, h3⟩
        exact ⟨_, rfl, ⟨s, rfl, h1, h2⟩, h3⟩) (fun v w' hv hb => ⟨⟨⟨hC.1.1.trans (hb.mono hC.1.1.size), Nat.le_trans hC.1.2 hb.size⟩, NN.PrAt.on hC.2 hb⟩, Kp.of hb, (by
          obtain ⟨s, rfl, h1, h2⟩ := hv
          exact ⟨s, rfl, (by unfold Sp.ok; rw [h2.2.1]; exact q32), sup_spot h2 fun i hi _ => Nat.le_trans hC.1.2 hi⟩), Ph.made hnK (hpre.below hb)⟩)
    · have hsz : 5 < listed.size := by rw [hinv.size]; decide
      have hpre := hI.1 hnl
      obtain ⟨s, e22, so, hJ⟩ := (hinv.got 4 _ 22 rfl (hdep ⟨4, .data⟩ (by simp) rfl) rfl)
      exact duty_call_any (C := (fun w' => (Below w.heap.size w w' ∧ v3.heap.size ≤ w'.heap.size) ∧ NN.PrAt w' bP p)) (S := (fun w w' => Kp (fun i => i = bA ∨ i = mb) w w')) (R := fun v' w' => NwR v3 bA p e q 5 v' w') (J := fun _ w' => Ph 5 (fun w' => Ara w' (fun i => v1.heap.size ≤ i ∧ i < v2.heap.size) bA p' t' gs cs R (.slice none 0 0) mb []) (fun w' => ∃ I v x, Ara w' I bA p' t' gs cs R v mb [x] ∧ x.e = e ∧ x.q = q ∧ ∀ i, Mine I bA v mb i → w.heap.size ≤ i) (listed.setIfInBounds 5 true) w') (wanted_free rfl) (f := 17) (args := #[a.eval (.tmp 18), a.eval (.tmp 20), a.eval (.tmp 22)]) (by kernel_rfl) (by
        rw [show a.eval (.tmp 18) = _ from (hinv.got 0 _ 18 rfl (hdep ⟨0, .data⟩ (by simp) rfl) rfl), show a.eval (.tmp 20) = _ from (hinv.got 2 _ 20 rfl (hdep ⟨2, .data⟩ (by simp) rfl) rfl), e22]
        have hJl := HF.out
        refine (store_at hpre ⟨e, s, q⟩ he so (fun i => v3.heap.size ≤ i ∧ i < wx.heap.size) hJ.clip (fun i hi => hi.2) (fun i hi h => ?_) (by decide) rfl).mono ?_
        · rcases h with h | h | h
          · have := hJl i (.inl h); omega
          · have := hJl i (.inr h); omega
          · cases h
        · rintro r w' ⟨v', rfl, hA', hK, hl⟩
          have hKF : Kp (fun i => i = bA ∨ i = mb) wx w' := hK.mono fun i hi _ => hi.elim .inl (fun h => h.elim .inr (fun h => by cases h))
          obtain ⟨l1, l2, l3, l4, l5, l6⟩ := HL.out
          refine ⟨_, rfl, ⟨⟨hC.1.1.trans (hKF.below (fun i hi => by rcases hi with rfl | rfl <;> assumption) hC.1.1.size), Nat.le_trans hC.1.2 hKF.size⟩, hKF.nhas hC.2 (fun h => h.elim l5 l6)⟩, hKF, rfl, Ph.last hsz ⟨_, v', _, hA', rfl, rfl, fun i hi => ?_⟩⟩
          rcases hi with (hi | hi) | rfl | rfl | hi
          · exact Nat.le_trans l1 hi.1
          · exact Nat.le_trans l4 hi.1
          · exact l3
          · exact l2
          · rcases hl with hl | ⟨g, hl, hg⟩
            · rw [hl] at hi; cases hi
            · rw [hl] at hi
              have hig : g = i := Option.some.inj hi
              have := hC.1.2
              omega)
  intro listed a' v4 hall hinv
  have hC := hinv.c.1
  obtain ⟨I, v, x, hE, x1, x2, hm⟩ := hinv.i.2 (hall 5 (by decide))
  have e6 : a'.eval (.tmp 6) = .pointer (some ⟨bA, 0, none⟩) := hinv.old' 6 (by kernel_rfl)
  obtain ⟨u, hu⟩ : ∃ u : Nat → Value, ∀ t, u t = a'.eval (.tmp t) := ⟨_, fun _ => rfl⟩
  rw [rl_frame a' 25 u hinv.tsize hinv.defers hu]
  rw [← hu] at e6
  clear hu hinv hall
  show Exit.then _ _ _ (⟨#[u 0, u 1, u 2, u 3, u 4, u 5, u 6, u 7, u 8, u 9, u 10, u 11, u 12, u 13, u 14, u 15, u 16, u 17, u 18, u 19, u 20, u 21, u 22, u 23, u 24], []⟩ : Act) v4
  rw [e6]
  clear e6
  go_wp2_with fail
  go_ret2
  exact ⟨bA, I, p', t', v, mb, x, rfl, hE, x1, x2, ⟨a1, a2, a3, a4, a5, a6⟩, hm, hC.1⟩
end Go.Proofs.YtcgnohndfedodaaDoor.An
/-
  New, by what is stored.
-/
namespace Go.Proofs.YtcgnohndfedodaaDoor.An
open Go.RowKit Mem Sc
open Ar (Ent Ru entZ)
def clampR (room : Int) : Nat := (min (max room 1) 512).toNat
theorem clampR_is (room : Int) : ((clampR room : Nat) : Int) = min (max room 1) 512 := by unfold clampR; omega
theorem clampR_le (room : Int) : 1 ≤ clampR room ∧ clampR room ≤ 512 := by unfold clampR; omega
theorem new_no (p : NN.Pr) (hp : p.ok) (t : Tl) (tt : p.tl = t.C) (ht : t.ok) (gs : List Gt) (cs : List Ck) (hgn : t.gn = gs.length) (hcn : t.cn = cs.length) (hgl : t.gn ≤ 1000) (hcl : t.cn ≤ 1000) (room : Int) (hbad : ruleP p t.g gs cs = false) (w : World) (hG : GatesAt w t.ga gs) (hC : ChecksAt w t.ca cs) :
    Calls Tryd.prog 11 #[.agg (NN.prA p), .int .i64 room] w fun e w' => e = .returned (.tuple #[.pointer none, .int .i64 1]) ∧ Below w.heap.size w w' :=
  new_bad p hp room w (Lib.hid fun w' hb => by
    have := good11_at p hp t tt ht gs cs hgn hcn hgl hcl w' (hG.below hb) (hC.below hb)
    rwa [hbad] at this)
theorem new_at (p : NN.Pr) (hp : p.ok) (h1 : p.one) (t : Tl) (tt : p.tl = t.C) (ht : t.ok) (gs : List Gt) (cs : List Ck) (hgn : t.gn = gs.length) (hcn : t.cn = cs.length) (hgl : t.gn ≤ 1000) (hcl : t.cn ≤ 1000) (room : Int) (hgood : ruleP p t.g gs cs = true) (w : World) (hT : Tab w) (hG : GatesAt w t.ga gs) (hC : ChecksAt w t.ca cs) :
    Calls Tryd.prog 11 #[.agg (NN.prA p), .int .i64 room] w fun r w' => ∃ b F, r = .returned (.tuple #[.pointer (some ⟨b, 0, none⟩), .int .i64 0]) ∧ ArS w' F b ⟨p, t.g, gs, cs, clampR room⟩ [entZ] ∧ (∀ i, F i → w.heap.size ≤ i) ∧ Below w.heap.size w w' := by
  have e1 : enOf ⟨p, t.g, gs, cs, clampR room⟩ entZ = ⟨t.g, t.g.id, -1, 0, NN.ofBits t.g.bits⟩ := rfl
  refine (new_w p hp t room (max room 1) (clampR room) rfl (clampR_is room) gs cs (enOf ⟨p, t.g, gs, cs, clampR room⟩ entZ) ⟨ht.2, id_length _⟩ (bgn p t.g) (id_length _) w ?_ ?_ ?_ ?_).mono ?_
  · refine Lib.hid fun w' hb => ?_
    have := good11_at p hp t tt ht gs cs hgn hcn hgl hcl w' (hG.below hb) (hC.below hb)
    rwa [hgood] at this
  · refine Lib.hid fun w' hb => (copied_at p hp h1 t tt ht gs cs hgn hcn hgl hcl w' (hG.below hb) (hC.below hb)).mono ?_
    rintro e w2 ⟨ga, gc, ca, cc, rfl, q1, q2, q3⟩
    refine ⟨moved p t ga gc ca cc, movedT t ga gc ca cc, rfl, ⟨moved_ok p t ht ga gc ca cc, ?_, rfl, ht, hgn, hcn, rfl, rfl, rfl, rfl, rfl, rfl⟩, q1, q2, q3⟩
    intro v hv
    have hv' : v ∈ (Value.slice ga t.gn gc :: Value.slice ca t.cn cc :: (t.nn ++ hdC t.g)) := hv
    simp only [List.mem_cons] at hv'
    rcases hv' with rfl | rfl | hv'
    · rfl
    · rfl
    · exact h1 v (by rw [tt]; unfold Tl.C; simp only [List.mem_cons]; exact .inr (.inr hv'))
  · refine Lib.hid fun w' hb => genesis_w p t tt ht _ ⟨ht.2, id_length _⟩ rfl rfl rfl w' ?_ ?_
    · exact Lib.hid fun w2 hb2 => id_at t.g ht.2 w2 (hT.below (hb.trans (hb2.mono hb.size)))
    · exact Lib.hid fun w2 => NN.wbits t.g.bits w2
  · exact Lib.hid fun w' hb => begin_at p hp t tt ht w' (hT.below hb)
  · rintro r w' ⟨b, I, p', t', v, mb, x, rfl, hA, x1, x2, ha, hm, hb⟩
    refine ⟨b, Mine I b v mb, rfl, ⟨fun i hi => hA.mine_lt hi, I, p', t', v, mb, [x], hA, ha, ?_, fun i hi => hi⟩, hm, hb⟩
    unfold Lk
    simp only [List.map_cons, List.map_nil, x1, x2]
    rfl
end Go.Proofs.YtcgnohndfedodaaDoor.An
/-
  What SkipHeights wants of a tree: New, Len, At, Ancestor; the height to which one leaps.
-/
namespace Go.Proofs.YtcgnohndfedodaaDoor.An
open Go.RowKit Mem Sc
open Ar (Ent Ru entZ Ok Lp hgt clr Up isP IsAn)
section
variable {w : World} {k : Nat} {e : En}
theorem EnAt.head (h : EnAt w k e) : w.rangeAt k 0 (hdC e.h) := by
  have := range_of (A := []) (cs := hdC e.h) (C := Lib.byteCells e.id ++ (.int .i64 e.up :: .int .i64 e.ht :: (NN.numC e.wk).toList)) (o := 0) (w := w) (b := k) (t := 50) h rfl
  exact this
theorem EnAt.tail (h : EnAt w k e) (ho : e.ok) : w.rangeAt k 100 (.int .i64 e.up :: .int .i64 e.ht :: (NN.numC e.wk).toList) := by
  have := range_of (A := hdC e.h ++ Lib.byteCells e.id) (cs := .int .i64 e.up :: .int .i64 e.ht :: (NN.numC e.wk).toList) (C := []) (o := 100) (w := w) (b := k) (t := 50) (by rw [List.append_nil, List.append_assoc]; exact h) (by simp [hdC_length ho.1, byteCells_32 ho.2])
  exact this
theorem EnAt.up (h : EnAt w k e) (ho : e.ok) {z : Int} (hz : Hid (e.up = z)) : w.cell? ⟨k, 100, none⟩ = some (.int .i64 z) := by rw [← hz.out]; exact h.tail ho 0 _ rfl
theorem EnAt.ht (h : EnAt w k e) (ho : e.ok) {z : Int} (hz : Hid (e.ht = z)) : w.cell? ⟨k, 101, none⟩ = some (.int .i64 z) := by rw [← hz.out]; exact h.tail ho 1 _ rfl
theorem en_made (w : World) (e : En) : EnAt ((w.alloc (.cells Tryd.zeroCells50 50)).setRow w.heap.size (enA e)) w.heap.size e := Has.row (en_newz w) _
end
theorem mk_below (w : World) (T : TypeId) (z cs : Array Value) : Below w.heap.size w ((w.alloc (.cells z T)).setRow w.heap.size cs) := below_setRow ((Below.refl _ _).alloc (Nat.le_refl _) _) (Nat.le_refl _) _
/-- an element of a row of ints -/
theorem ints_at {w : World} {v : Value} {l : List Int} {base n : Nat} (h : w.ownsRow base 3 1 v n (l.map (Value.int .i64))) {k : Nat} {x : Int} (hx : l[k]? = some x) : ∃ g c, v = .slice (some ⟨g, 0, none⟩) n c ∧ w.cell? ⟨g, k, none⟩ = some (.int .i64 x) := by
  have hk := (List.getElem?_eq_some_iff.1 hx).1
  obtain ⟨hlen, ⟨rfl, hm0⟩ | ⟨g2, c, cur, rfl, q1, q2, q3, q4, q5, q6⟩⟩ := h
  · rw [List.length_map] at hlen; omega
  · refine ⟨g2, c, rfl, ?_⟩
    have e : (cur.toList.take (n * 1))[k]? = some (Value.int .i64 x) := by rw [q6, List.getElem?_map, hx]; rfl
    rw [Has.cell (show Has w g2 cur 3 from q2), ← Array.getElem?_toList]
    rw [List.getElem?_take] at e
    split at e
    · exact e
    · cases e
def trA (ab : Nat) (lv : Value) : Array Value := #[.pointer (some ⟨ab, 0, none⟩), lv]
/-- block b is a tree of these rules, in which this is stored; so they leap; all its blocks are among F -/
def TrS (w : World) (F : Nat → Prop) (b : Nat) (r : Ru) (M : List Ent) (ls : List Int) : Prop :=
  (∀ i, F i → i < w.heap.size) ∧ ∃ Fa ab lv, Has w b (trA ab lv) 47 ∧ ArS w Fa ab r M ∧ w.ownsRow 0 3 1 lv ls.length (ls.map (Value.int .i64)) ∧ Lp M ls ∧ F b ∧ (∀ i, Fa i → F i) ∧ (∀ i, lv.ownBlock = some i → F i) ∧ ¬ Fa b ∧ ∀ i, lv.ownBlock = some i → ¬ Fa i
section
variable {w w' : World} {F G : Nat → Prop} {b : Nat} {r : Ru} {M : List Ent} {ls : List Int}
theorem TrS.on (h : TrS w F b r M ls) (k : Kp G w w') (hG : ∀ i, F i → ¬ G i) : TrS w' F b r M ls := by
  obtain ⟨hl, Fa, ab, lv, h1, h2, h3, h4, h5, h6, h7, h8, h9⟩ := h
  exact ⟨fun i hi => Nat.lt_of_lt_of_le (hl i hi) k.size, Fa, ab, lv, k.has h1 (hG b h5), h2.on k fun i hi => hG i (h6 i hi), kp_row h3 k fun i hi => hG i (h7 i hi), h4, h5, h6, h7, h8, h9⟩
theorem TrS.below (h : TrS w F b r M ls) (hb : Below w.heap.size w w') : TrS w' F b r M ls := h.on (G := fun _ => False) (Kp.of hb) fun _ _ hf => hf
theorem TrS.wide (h : TrS w F b r M ls) (hF : ∀ i, F i → G i) (hG : ∀ i, G i → i < w.heap.size) : TrS w G b r M ls := by
  obtain ⟨_, Fa, ab, lv, h1, h2, h3, h4, h5, h6, h7, h8, h9⟩ := h
  exact ⟨hG, Fa, ab, lv, h1, h2, h3, h4, hF b h5, fun i hi => hF i (h6 i hi), fun i hi => hF i (h7 i hi), h8, h9⟩
end
set_option maxRecDepth 100000
theorem clr_bits (m : Nat) (hm : m ≤ 9223372036854775807) : ∃ k : Int, IntKind.i64.wrap ((m : Int) - 1) = k ∧ bits .and .i64 (m : Int) k = ((clr m : Nat) : Int) := by
  refine ⟨_, rfl, ?_⟩
  by_cases h0 : m = 0
  · subst h0; decide
  · have e : IntKind.i64.wrap ((m : Int) - 1) = ((m - 1 : Nat) : Int) := by rw [IntKind.wrap_i64]; omega
    rw [e, NN.andI _ _ (by omega) (by omega)]
    rfl
theorem wl_at (m : Nat) (hm : m ≤ 9223372036854775807) (w : World) : Calls Tryd.prog 10 #[.int .i64 (m : Int)] w fun e w' => e = .returned (.int .i64 ((clr m : Nat) : Int)) ∧ Below w.heap.size w w' := by
  obtain ⟨k, h1, h2⟩ := clr_bits m hm
  obtain ⟨c, hc⟩ : ∃ c : Int, c = ((clr m : Nat) : Int) := ⟨_, rfl⟩
  rw [← hc] at h2 ⊢
  clear hc hm
  obtain ⟨mi, hm⟩ : ∃ mi : Int, mi = (m : Int) := ⟨_, rfl⟩
  rw [← hm] at h1 h2 ⊢
  clear hm
  have hB := Below.refl w.heap.size w
  go_enter Tryd.func10, Tryd.ntmps10
  go_wp2_with fail
  go_ret
  exact ⟨rfl, hB⟩
theorem height_w (h : Int) (g1 g2 : Bool) (q k c c2 c3 : Int) (h1 : decide (h < 2) = g1) (hq : Int.tmod h 2 = q) (h2 : (q == 0) = g2) (h3 : IntKind.i64.wrap (h - 1) = k) (h4 : IntKind.i64.wrap (c2 + 1) = c3) (w : World)
    (K1 : Hid (∀ w', g1 = false → g2 = true → Calls Tryd.prog 10 #[.int .i64 h] w' fun e w'' => e = .returned (.int .i64 c) ∧ Below w'.heap.size w' w''))
    (K2 : Hid (∀ w', g1 = false → g2 = false → Calls Tryd.prog 10 #[.int .i64 k] w' fun e w'' => e = .returned (.int .i64 c) ∧ Below w'.heap.size w' w''))
    (K3 : Hid (∀ w', g1 = false → g2 = false → Calls Tryd.prog 10 #[.int .i64 c] w' fun e w'' => e = .returned (.int .i64 c2) ∧ Below w'.heap.size w' w'')) :
    Calls Tryd.prog 5 #[.int .i64 h] w fun e w' => e = .returned (.int .i64 (if g1 then 0 else if g2 then c else c3)) ∧ Below w.heap.size w w' := by
  have hB := Below.refl w.heap.size w
  cases g1
  · cases g2
    · go_enter Tryd.func5, Tryd.ntmps5
      go_wp2_with fail
      refine (K2.out _ (by simp) (by simp)).mono ?_
      rintro e v1 ⟨rfl, hb⟩
      replace hB := hB.trans (hb.mono hB.size)
      clear hb
      go_wp2_with fail
      refine (K3.out _ (by simp) (by simp)).mono ?_
      rintro e v2 ⟨rfl, hb⟩
      replace hB := hB.trans (hb.mono hB.size)
      clear hb
      go_wp2_with fail
      go_ret
      exact ⟨rfl, hB⟩
    · go_enter Tryd.func5, Tryd.ntmps5
      go_wp2_with fail
      refine (K1.out _ (by simp) (by simp)).mono ?_
      rintro e v1 ⟨rfl, hb⟩
      replace hB := hB.trans (hb.mono hB.size)
      clear hb
      go_wp2_with fail
      go_ret
      exact ⟨rfl, hB⟩
  · go_enter Tryd.func5, Tryd.ntmps5
    go_wp2_with fail
    go_ret
    exact ⟨rfl, hB⟩
theorem height_at (h : Int) (hh : h ≤ 9223372036854775807) (h0 : -9223372036854775808 ≤ h) (w : World) : Calls Tryd.prog 5 #[.int .i64 h] w fun e w' => e = .returned (.int .i64 ((hgt h.toNat : Nat) : Int)) ∧ Below w.heap.size w w' := by
  by_cases hs : h < 2
  · have := height_w h true (Int.tmod h 2 == 0) _ _ 0 0 _ (decide_eq_true hs) rfl rfl rfl rfl w (Lib.hid fun _ h => by cases h) (Lib.hid fun _ h => by cases h) (Lib.hid fun _ h => by cases h)
    rw [Ar.hgt_small (by omega)]
    exact this
  · obtain ⟨n, rfl⟩ := Int.eq_ofNat_of_zero_le (by omega : 0 ≤ h)
    have hq : Int.tmod (n : Int) 2 = ((n % 2 : Nat) : Int) := by rw [Int.tmod_eq_emod_of_nonneg (by omega)]; omega
    rw [Int.toNat_natCast]
    by_cases he : n % 2 = 0
    · have := height_w (n : Int) false true _ _ ((clr n : Nat) : Int) 0 _ (decide_eq_false hs) hq (by rw [he]; rfl) rfl rfl w (Lib.hid fun w' _ _ => wl_at n (by omega) w') (Lib.hid fun _ _ h => by cases h) (Lib.hid fun _ _ h => by cases h)
      rw [Ar.hgt_even (by omega) he]
      exact this
    · have e1 : IntKind.i64.wrap ((n : Int) - 1) = ((n - 1 : Nat) : Int) := by rw [IntKind.wrap_i64]; omega
      have hc1 := Ar.clr_le (n - 1)
      have hc2 := Ar.clr_le (clr (n - 1))
      have e2 : IntKind.i64.wrap (((clr (clr (n - 1)) : Nat) : Int) + 1) = ((1 + clr (clr (n - 1)) : Nat) : Int) := by rw [IntKind.wrap_i64]; omega
      have := height_w (n : Int) false false _ _ ((clr (n - 1) : Nat) : Int) ((clr (clr (n - 1)) : Nat) : Int) _ (decide_eq_false hs) hq (by have : n % 2 = 1 := by omega
                                                                                                                                             rw [this]; rfl) e1 e2 w (Lib.hid fun _ _ h => by cases h) (Lib.hid fun w' _ _ => wl_at (n - 1) (by omega) w') (Lib.hid fun w' _ _ => wl_at (clr (n - 1)) (by omega) w')
      rw [Ar.hgt_odd (by omega) (by omega)]
      exact this
/-! ### what a tree has of its arena -/
theorem held_nil (w : World) : Calls Tryd.prog 12 #[.pointer none] w fun e w' => e = .returned (.pointer none) ∧ Below w.heap.size w w' := by
  have hB := Below.refl w.heap.size w
  go_enter Tryd.func12, Tryd.ntmps12
  go_wp2_with fail
  go_ret
  exact ⟨rfl, hB⟩
theorem held_w (b ab : Nat) (w : World) (hv : w.cell? ⟨b, 0, none⟩ = some (.pointer (some ⟨ab, 0, none⟩))) : Calls Tryd.prog 12 #[.pointer (some ⟨b, 0, none⟩)] w fun e w' => e = .returned (.pointer (some ⟨ab, 0, none⟩)) ∧ Below w.heap.size w w' := by
  have hB := Below.refl w.heap.size w
  go_enter Tryd.func12, Tryd.ntmps12
  go_wp2_with fail
  go_ret
  exact ⟨rfl, hB⟩
/-- of a tree (or none) comes an arena (or none) -/
def HeldIs (w : World) (tp ap : Value) : Prop := ∀ w', Below w.heap.size w w' → Calls Tryd.prog 12 #[tp] w' fun e w'' => e = .returned ap ∧ Below w'.heap.size w' w''
theorem tlen_w (tp ap : Value) (n : Int) (w : World) (KH : Hid (HeldIs w tp ap)) (KL : Hid (∀ w', Below w.heap.size w w' → Calls Tryd.prog 13 #[ap] w' fun e w'' => e = .returned (.int .i64 n) ∧ Below w'.heap.size w' w'')) :
    Calls Tryd.prog 8 #[tp] w fun e w' => e = .returned (.int .i64 n) ∧ Below w.heap.size w w' := by
  have hB := Below.refl w.heap.size w
  go_enter Tryd.func8, Tryd.ntmps8
  go_wp2_with fail
  refine (KH.out _ hB).mono ?_
  rintro e v1 ⟨rfl, hb⟩
  replace hB := hB.trans (hb.mono hB.size)
  clear hb
  go_wp2_with fail
  refine (KL.out _ hB).mono ?_
  rintro e v2 ⟨rfl, hb⟩
  replace hB := hB.trans (hb.mono hB.size)
  clear hb
  go_wp2_with fail
  go_ret
  exact ⟨rfl, hB⟩
theorem tat_w (tp ap : Value) (k : Int) (e : En) (he : e.ok) (g : Bool) (w : World) (KH : Hid (HeldIs w tp ap)) (KL : Hid (∀ w', Below w.heap.size w w' → Calls Tryd.prog 20 #[ap, .int .i64 k] w' fun x w'' => x = .returned (.tuple #[.agg (enA e), .bool g]) ∧ Below w'.heap.size w' w'')) :
    Calls Tryd.prog 14 #[tp, .int .i64 k] w fun x w' => x = .returned (.tuple #[.agg (enA e), .bool g]) ∧ Below w.heap.size w w' := by
  have z0 := enA_size enZ_ok
  have z1 := enA_size he
  go_enter Tryd.func14, Tryd.ntmps14
  go_upto_region 1 with fail
  generalize hw0 : World.alloc _ _ = v0
  have hB : Below w.heap.size w v0 := by rw [← hw0]; exact (Below.refl _ _).alloc (Nat.le_refl _) _
  have hR : EnAt v0 w.heap.size enZ := by rw [← hw0]; exact en_newz w
  clear hw0
  obtain ⟨bR, hbR⟩ : ∃ x, x = w.heap.size := ⟨_, rfl⟩
  rw [← hbR] at hR ⊢
  have HBR : Hid (w.heap.size ≤ bR) := Lib.hid (by omega)
  clear hbR
  go_wp2_with fail
  refine (KH.out _ hB).mono ?_
  rintro x v1 ⟨rfl, hb⟩
  replace hR := hR.on hb
  replace hB := hB.trans (hb.mono hB.size)
  clear hb
  go_wp2_with fail
  refine (KL.out _ hB).mono ?_
  rintro x v2 ⟨rfl, hb⟩
  replace hR := hR.on hb
  replace hB := hB.trans (hb.mono hB.size)
  clear hb
  go_wp2_with (with_reducible refine en_store rfl _ _ rfl _ _ e rfl rfl rfl z1 hR z0 ?_)
  refine bodyPost_ret (en_results2 Tryd.results14 _ _ _ rfl rfl (Has.row hR _) z1) rfl ⟨rfl, below_setRow hB HBR.out _⟩
/-! ### by what is stored -/
section
variable {w : World} {F : Nat → Prop} {b : Nat} {r : Ru} {M : List Ent} {ls : List Int}
theorem HeldIs.nil (w : World) : HeldIs w (.pointer none) (.pointer none) := fun w' _ => held_nil w'
theorem TrS.parts (h : TrS w F b r M ls) : ∃ Fa ab, HeldIs w (.pointer (some ⟨b, 0, none⟩)) (.pointer (some ⟨ab, 0, none⟩)) ∧ ArS w Fa ab r M := by
  obtain ⟨hl, Fa, ab, lv, h1, h2, h3, h4, h5, h6, h7, h8, h9⟩ := h
  exact ⟨Fa, ab, fun w' hb => held_w b ab w' ((hb.cell (p := ⟨b, 0, none⟩) (Has.lt h1)).trans (Has.cell h1 0)), h2⟩
theorem tlen_at (h : TrS w F b r M ls) : Calls Tryd.prog 8 #[.pointer (some ⟨b, 0, none⟩)] w fun e w' => e = .returned (.int .i64 (M.length : Nat)) ∧ Below w.heap.size w w' := by
  obtain ⟨Fa, ab, k1, k2⟩ := h.parts
  exact tlen_w _ _ _ w (Lib.hid k1) (Lib.hid fun w' hb => len_at (k2.below hb))
theorem tat_at (h : TrS w F b r M ls) {i : Nat} {e : Ent} (he : M[i]? = some e) (k : Int) (hk : k = (i : Nat)) : Calls Tryd.prog 14 #[.pointer (some ⟨b, 0, none⟩), .int .i64 k] w fun x w' => x = .returned (.tuple #[.agg (enA (enOf r e)), .bool true]) ∧ Below w.heap.size w w' := by
  obtain ⟨Fa, ab, k1, k2⟩ := h.parts
  exact tat_w _ _ _ _ (enOf_ok k2 he) _ w (Lib.hid k1) (Lib.hid fun w' hb => at_at (k2.below hb) he k hk)
theorem tat_not (h : TrS w F b r M ls) (k : Int) (hk : ¬ (0 ≤ k ∧ k < (M.length : Nat))) : Calls Tryd.prog 14 #[.pointer (some ⟨b, 0, none⟩), .int .i64 k] w fun x w' => x = .returned (.tuple #[.agg (enA enN), .bool false]) ∧ Below w.heap.size w w' := by
  obtain ⟨Fa, ab, k1, k2⟩ := h.parts
  exact tat_w _ _ _ _ enN_ok _ w (Lib.hid k1) (Lib.hid fun w' hb => at_not (k2.below hb) k hk)
end
theorem tlen_nil (w : World) : Calls Tryd.prog 8 #[.pointer none] w fun e w' => e = .returned (.int .i64 0) ∧ Below w.heap.size w w' := tlen_w _ _ _ w (Lib.hid (HeldIs.nil w)) (Lib.hid fun w' _ => len_nil w')
theorem tat_nil (k : Int) (w : World) : Calls Tryd.prog 14 #[.pointer none, .int .i64 k] w fun x w' => x = .returned (.tuple #[.agg (enA enN), .bool false]) ∧ Below w.heap.size w w' := tat_w _ _ _ _ enN_ok _ w (Lib.hid (HeldIs.nil w)) (Lib.hid fun w' _ => at_nil k w')
set_option maxRecDepth 100000
/-- how a tree answers At -/
def AtIs (w : World) (tp : Value) (r : Ru) (M : List Ent) : Prop := ∀ w', Below w.heap.size w w' → ∀ (k : Int), (∃ (n : Nat) (e : Ent), k = (n : Int) ∧ M[n]? = some e ∧ (enOf r e).ok ∧ Calls Tryd.prog 14 #[tp, .int .i64 k] w' fun x w'' => x = .returned (.tuple #[.agg (enA (enOf r e)), .bool true]) ∧ Below w'.heap.size w' w'') ∨ (¬ isP M k ∧ Calls Tryd.prog 14 #[tp, .int .i64 k] w' fun x w'' => x = .returned (.tuple #[.agg (enA enN), .bool false]) ∧ Below w'.heap.size w' w'')
/-- where the leaps lie -/
def LeapsAt (w : World) (b g n c : Nat) (ls : List Int) : Prop := w.cell? ⟨b, 1, none⟩ = some (.slice (some ⟨g, 0, none⟩) n c) ∧ ∀ (k : Nat) (x : Int), ls[k]? = some x → w.cell? ⟨g, k, none⟩ = some (.int .i64 x)
theorem AtIs.below {w w1 : World} {tp : Value} {r : Ru} {M : List Ent} (h : AtIs w tp r M) (hb : Below w.heap.size w w1) : AtIs w1 tp r M := fun w' hb' => h w' (hb.trans (hb'.mono hb.size))
theorem LeapsAt.below {w w1 : World} {b g n c : Nat} {ls : List Int} (h : LeapsAt w b g n c ls) (hb : Below w.heap.size w w1) : LeapsAt w1 b g n c ls :=
  ⟨(hb.cell (block_lt_of_cell h.1)).trans h.1, fun k x hk => (hb.cell (block_lt_of_cell (h.2 k x hk))).trans (h.2 k x hk)⟩
theorem TrS.atis {w : World} {F : Nat → Prop} {b : Nat} {r : Ru} {M : List Ent} {ls : List Int} (h : TrS w F b r M ls) : AtIs w (.pointer (some ⟨b, 0, none⟩)) r M := fun w' hb k => by
  by_cases hk : isP M k
  · obtain ⟨n, e, rfl, he⟩ := hk.is
    refine .inl ⟨n, e, rfl, he, ?_, tat_at (h.below hb) he _ rfl⟩
    obtain ⟨Fa, ab, _, k2⟩ := h.parts
    exact enOf_ok k2 he
  · exact .inr ⟨hk, tat_not (h.below hb) k hk⟩
theorem TrS.leaps {w : World} {F : Nat → Prop} {b : Nat} {r : Ru} {M : List Ent} {ls : List Int} (h : TrS w F b r M ls) (h0 : 0 < ls.length) : ∃ g c, LeapsAt w b g ls.length c ls := by
  obtain ⟨hl, Fa, ab, lv, h1, h2, h3, h4, h5, h6, h7, h8, h9⟩ := h
  obtain ⟨g, c, rfl, _⟩ := ints_at h3 (k := 0) (x := ls[0]) (List.getElem?_eq_getElem h0)
  refine ⟨g, c, Has.cell h1 1, fun k x hk => ?_⟩
  obtain ⟨g2, c2, e, hc⟩ := ints_at h3 hk
  cases e
  exact hc
theorem TrS.lp {w : World} {F : Nat → Prop} {b : Nat} {r : Ru} {M : List Ent} {ls : List Int} (h : TrS w F b r M ls) : Lp M ls := by
  obtain ⟨hl, Fa, ab, lv, h1, h2, h3, h4, _⟩ := h
  exact h4
set_option maxHeartbeats 2000000 in
theorem anc_no (tp : Value) (k h : Int) (E : En) (hE : E.ok) (t : Int) (ht : Hid (E.ht = t)) (g a b : Bool) (ha : decide (h < 0) = a) (hb : decide (t < h) = b) (hno : (!g || a || b) = true) (w : World) (KA : Hid (∀ w', Below w.heap.size w w' → Calls Tryd.prog 14 #[tp, .int .i64 k] w' fun x w'' => x = .returned (.tuple #[.agg (enA E), .bool g]) ∧ Below w'.heap.size w' w'')) :
    Calls Tryd.prog 9 #[tp, .int .i64 k, .int .i64 h] w fun x w' => x = .returned (.int .i64 (-1)) ∧ Below w.heap.size w w' := by
  have ze := enA_size hE
  have z0 := enA_size enZ_ok
  have hB := Below.refl w.heap.size w
  go_enter Tryd.func9, Tryd.ntmps9
  go_wp2_with fail
  refine (KA.out _ hB).mono ?_
  rintro x v1 ⟨rfl, hb⟩
  replace hB := hB.trans (hb.mono hB.size)
  clear hb
  have hnew := en_newz v1
  have hE1 := en_made v1 E
  have hb3 := mk_below v1 50 Tryd.zeroCells50 (enA E)
  go_upto_region 2 with (with_reducible refine en_store rfl _ _ rfl _ _ E rfl rfl rfl ze hnew z0 ?_)
  generalize World.setRow _ _ _ = v2 at *
  replace hB := hB.trans (hb3.mono hB.size)
  have c1 := EnAt.ht hE1 hE ht
  clear hb3 hnew
  cases g <;> cases a <;> cases b
  case true.false.false => cases hno
  all_goals
    clear hno
    go_wp2_with fail
    go_ret
    exact ⟨rfl, hB⟩
theorem up_lt {r : Ru} {M : List Ent} (hM : Ok r M) {n : Nat} {e : Ent} {h : Nat} {z : Int} (he : M[n]? = some e) (k : Up M (n : Int) h z) (hh : h < e.hs.length) : 0 ≤ z ∧ z < (n : Int) := by
  obtain ⟨L, h1, h2⟩ := k
  have q := (h1.up hM).2 z (List.mem_of_getElem? h2)
  refine ⟨q.1, ?_⟩
  have h3 := h1.last
  have h4 := h1.len hM he
  have hlt : h < L.length - 1 := by omega
  obtain ⟨u1, u2⟩ := List.getElem?_eq_some_iff.1 h2
  obtain ⟨v1, v2⟩ := List.getElem?_eq_some_iff.1 h3.2
  have := List.pairwise_iff_getElem.1 (h1.up hM).1 _ _ u1 v1 hlt
  omega
/-- on the way back from i to the height t: at the place n, whose entry is E, of the height k -/
structure Way (r : Ru) (M : List Ent) (i : Int) (t n : Nat) (E : En) (k : Nat) : Prop where
  ok : E.ok
  ht : E.ht = (k : Int)
  low : t ≤ k
  ex : ∃ e, M[n]? = some e ∧ E = enOf r e ∧ e.hs.length = k ∧ Up M i k (n : Int)
theorem Way.next {r : Ru} {M : List Ent} {i : Int} {t n : Nat} {E : En} {k : Nat} (hM : Ok r M) (h : Way r M i t n E k) {j : Nat} {z : Int} (hz : ∀ e, M[n]? = some e → e.hs.length = k → Up M (n : Int) j z) (hj : j < k) (hj2 : t ≤ j) (hE : ∀ (m : Nat) (e : Ent), M[m]? = some e → (enOf r e).ok) :
    ∃ (m : Nat) (e : Ent), z = (m : Int) ∧ m < n ∧ M[m]? = some e ∧ Way r M i t m (enOf r e) j := by
  obtain ⟨e, h1, h2, h3, h4⟩ := h.ex
  have q := hz e h1 h3
  obtain ⟨m, d, rfl, hd, hl⟩ := q.place hM
  have := up_lt hM h1 q (by omega)
  exact ⟨m, d, rfl, by omega, hd, hE m d hd, by rw [← hl]; rfl, hj2, d, hd, rfl, hl, h4.trans q⟩
set_option maxHeartbeats 4000000 in
theorem anc_main (b g nn c : Nat) (ls : List Int) (r : Ru) (M : List Ent) (hM : Ok r M) (hl : Lp M ls) (hn : nn = ls.length) (hl9 : M.length ≤ 900) (i : Nat) (hi : i < ls.length) (e : Ent) (he : M[i]? = some e) (t : Nat) (ht : t ≤ e.hs.length) (w : World)
    (KA : Hid (AtIs w (.pointer (some ⟨b, 0, none⟩)) r M)) (KL : Hid (LeapsAt w b g nn c ls)) :
    Calls Tryd.prog 9 #[.pointer (some ⟨b, 0, none⟩), .int .i64 (i : Int), .int .i64 (t : Int)] w fun x w' => ∃ z, x = .returned (.int .i64 z) ∧ Up M (i : Int) t z ∧ Below w.heap.size w w' := by
  have KAT : ∀ (n : Nat) (e : Ent), M[n]? = some e → Hid (∀ w', Below w.heap.size w w' → Calls Tryd.prog 14 #[.pointer (some ⟨b, 0, none⟩), .int .i64 (n : Int)] w' fun x w'' => x = .returned (.tuple #[.agg (enA (enOf r e)), .bool true]) ∧ Below w'.heap.size w' w'') := fun n e he => Lib.hid fun w' hb => by
    rcases KA.out w' hb (n : Int) with ⟨m, d, h1, h2, _, h3⟩ | ⟨h1, _⟩
    · obtain rfl : n = m := by omega
      rw [he] at h2
      cases h2
      exact h3
    · exact absurd (Ar.isP_of he) h1
  have HOK : Hid (∀ (n : Nat) (e : Ent), M[n]? = some e → (enOf r e).ok) := Lib.hid fun n e he => by
    rcases KA.out w (Below.refl _ _) (n : Int) with ⟨m, d, h1, h2, h3, _⟩ | ⟨h1, _⟩
    · obtain rfl : n = m := by omega
      rw [he] at h2
      cases h2
      exact h3
    · exact absurd (Ar.isP_of he) h1
  have hc := hM.chain i e he
  have hiM := (List.getElem?_eq_some_iff.1 he).1
  have KA1 := KAT i e he
  have hW : Hid (Way r M (i : Int) t i (enOf r e) e.hs.length) := Lib.hid ⟨HOK.out i e he, rfl, ht, e, he, rfl, rfl, Up.self hM he⟩
  have hE := HOK.out i e he
  have z0 := enA_size enZ_ok
  have hB := Below.refl w.heap.size w
  obtain ⟨k, hk⟩ : ∃ k, k = e.hs.length := ⟨_, rfl⟩
  obtain ⟨E, hEe⟩ : ∃ E, E = enOf r e := ⟨_, rfl⟩
  have HT : Hid (E.ht = (k : Int)) := Lib.hid (by rw [hEe, hk]; rfl)
  rw [← hk] at ht hc
  rw [← hEe] at KA1 hE hW
  rw [← hk] at hW
  have hk9 : k ≤ 900 := by omega
  clear he hEe hk KA
  have HN := Lib.hid hn
  have HI := Lib.hid hi
  clear hn hi hc
  have ze := enA_size hE
  have t1 : decide ((t : Int) < 0) = false := decide_eq_false (by omega)
  have t2 : ¬ k < t := by omega
  clear ht
  go_enter Tryd.func9, Tryd.ntmps9
  go_wp2_with fail
  refine (KA1.out _ hB).mono ?_
  rintro x v1 ⟨rfl, hb⟩
  replace hB := hB.trans (hb.mono hB.size)
  clear hb
  have hnew := en_newz v1
  have hE1 := en_made v1 E
  have hb3 := mk_below v1 50 Tryd.zeroCells50 (enA E)
  go_upto_region 2 with (with_reducible refine en_store rfl _ _ rfl _ _ E rfl rfl rfl ze hnew z0 ?_)
  generalize World.setRow _ _ _ = v2 at *
  obtain ⟨bX, hbX⟩ : ∃ x, x = v1.heap.size := ⟨_, rfl⟩
  rw [← hbX] at hE1 ⊢
  have HBX : Hid (w.heap.size ≤ bX) := Lib.hid (by have := hB.size; omega)
  replace hB := hB.trans (hb3.mono hB.size)
  have c1 := EnAt.ht hE1 hE HT
  clear hb3 hnew hbX KA1
  go_wp2_with fail
  clear c1 t1 t2
  go_loopw [1] (fun v wr => ∃ (n : Nat) (E : En) (k : Nat), v = .int .i64 (n : Int) ∧ k ≤ 900 ∧ EnAt wr bX E ∧ Hid (n ≤ i ∧ Way r M (i : Int) t n E k) ∧ Below w.heap.size w wr) (fun v _ => (intOf v).toNat)
  case atStart => exact ⟨i, E, k, rfl, hk9, hE1, Lib.hid ⟨Nat.le_refl _, hW.out⟩, hB⟩
  case round =>
    clear hE1 hB hW HT ze hE hk9
    obtain ⟨n, E, k, rfl, hk9, hE1, HW, hB⟩ := hrel
    have c1 := EnAt.ht hE1 HW.out.2.ok (Lib.hid HW.out.2.ht)
    have ze := enA_size HW.out.2.ok
    by_cases hlt : t < k
    · have hN : Hid (n < ls.length) := Lib.hid (by have := HI.out; have := HW.out.1; omega)
      have KH := Lib.hid fun w' => height_at (k : Int) (by omega) (by omega) w'
      rw [Int.toNat_natCast] at KH
      have hlt2 := Ar.hgt_lt (h := k) (by omega)
      by_cases hge : t ≤ hgt k
      · obtain ⟨x, hx⟩ : ∃ x, ls[n]? = some x := ⟨_, List.getElem?_eq_getElem hN.out⟩
        obtain ⟨m, d, rfl, hmn, hd, hW2⟩ := HW.out.2.next hM (z := x) (j := hgt k) (fun e he hek => by have := hl.to_ n e x he hx (by omega); rwa [hek] at this) hlt2 hge HOK.out
        have HW2 : Hid (m ≤ i ∧ Way r M (i : Int) t m (enOf r d) (hgt k)) := Lib.hid ⟨by have := HW.out.1; omega, hW2⟩
        have HX := Lib.hid hx
        have hnn : n < nn := by rw [HN.out]; exact hN.out
        have KA2 := KAT m d hd
        have hE2 := HOK.out m d hd
        clear hW2 hx hd HW
        generalize enOf r d = E2 at *
        have z2 := enA_size hE2
        go_wp2_with fail
        refine (KH.out _).mono ?_
        rintro x v3 ⟨rfl, hb⟩
        replace hE1 := hE1.on hb
        replace hB := hB.trans (hb.mono hB.size)
        have hL1 := KL.out.below hB
        obtain ⟨l1, l2⟩ := hL1
        have l3 := l2 n _ HX.out
        have c2 := EnAt.ht hE1
        clear hb l2 KH c2
        go_wp2_with fail
        refine (KA2.out _ hB).mono ?_
        rintro x v4 ⟨rfl, hb⟩
        replace hE1 := hE1.on hb
        replace hB := hB.trans (hb.mono hB.size)
        clear hb l1 l3 KA2
        go_wp2_with (with_reducible refine en_store rfl _ _ rfl _ _ E2 rfl rfl rfl z2 hE1 ze ?_)
        have hE3 : EnAt _ bX E2 := Has.row hE1 (enA E2)
        have hB3 := below_setRow hB HBX.out (enA E2)
        generalize World.setRow _ _ _ = v5 at *
        simp only [Act.put]
        go_roundw
        case rel => exact ⟨m, E2, hgt k, rfl, by omega, hE3, HW2, hB3⟩
        case measure => simp [intOf]; omega
      · have hup : Hid (∃ (m : Nat) (e : Ent), E.up = (m : Int) ∧ m < n ∧ M[m]? = some e ∧ Way r M (i : Int) t m (enOf r e) (k - 1)) := Lib.hid (by
          obtain ⟨e, h1, h2, h3, h4⟩ := HW.out.2.ex
          have := HW.out.2.next hM (z := e.up) (j := k - 1) (fun d hd hdk => by rw [h1] at hd; cases hd; have := (Up.ahead hM h1 (by omega)).1; rwa [h3] at this) (by omega) (by omega) HOK.out
          rw [h2]
          exact this)
        obtain ⟨m, d, hu, hmn, hd, hW2⟩ := hup.out
        have HU := Lib.hid hu
        have HW2 : Hid (m ≤ i ∧ Way r M (i : Int) t m (enOf r d) (k - 1)) := Lib.hid ⟨by have := HW.out.1; omega, hW2⟩
        have KA2 := KAT m d hd
        have hE2 := HOK.out m d hd
        have HEok := Lib.hid HW.out.2.ok
        clear hW2 hd HW hup hu
        generalize enOf r d = E2 at *
        have z2 := enA_size hE2
        go_wp2_with fail
        refine (KH.out _).mono ?_
        rintro x v3 ⟨rfl, hb⟩
        replace hE1 := hE1.on hb
        replace hB := hB.trans (hb.mono hB.size)
        have c2 := EnAt.up hE1 HEok.out HU
        clear hb KH
        go_wp2_with fail
        refine (KA2.out _ hB).mono ?_
        rintro x v4 ⟨rfl, hb⟩
        replace hE1 := hE1.on hb
        replace hB := hB.trans (hb.mono hB.size)
        clear hb c2 KA2
        go_wp2_with (with_reducible refine en_store rfl _ _ rfl _ _ E2 rfl rfl rfl z2 hE1 ze ?_)
        have hE3 : EnAt _ bX E2 := Has.row hE1 (enA E2)
        have hB3 := below_setRow hB HBX.out (enA E2)
        generalize World.setRow _ _ _ = v5 at *
        simp only [Act.put]
        go_roundw
        case rel => exact ⟨m, E2, k - 1, rfl, by omega, hE3, HW2, hB3⟩
        case measure => simp [intOf]; omega
    · have hup : Hid (Up M (i : Int) t (n : Int)) := Lib.hid (by
        obtain ⟨e, h1, h2, h3, h4⟩ := HW.out.2.ex
        have := HW.out.2.low
        obtain rfl : k = t := by omega
        exact h4)
      clear HW ze
      go_wp2_with fail
      go_ret
      exact ⟨_, rfl, hup.out, hB⟩
theorem ancestor_at {w : World} {F : Nat → Prop} {b : Nat} {r : Ru} {M : List Ent} {ls : List Int} (h : TrS w F b r M ls) (hM : Ok r M) (hl9 : M.length ≤ 900) (i t z : Int) (hi : isP M i → i < (ls.length : Int)) (hz : IsAn M i t z) :
    Calls Tryd.prog 9 #[.pointer (some ⟨b, 0, none⟩), .int .i64 i, .int .i64 t] w fun x w' => x = .returned (.int .i64 z) ∧ Below w.heap.size w w' := by
  have hA := h.atis
  by_cases hp : isP M i
  · obtain ⟨n, e, rfl, he⟩ := hp.is
    have hn := hi hp
    have hE : (enOf r e).ok ∧ ∀ w', Below w.heap.size w w' → Calls Tryd.prog 14 #[.pointer (some ⟨b, 0, none⟩), .int .i64 (n : Int)] w' fun x w'' => x = .returned (.tuple #[.agg (enA (enOf r e)), .bool true]) ∧ Below w'.heap.size w' w'' := by
      obtain ⟨Fa, ab, _, k2⟩ := h.parts
      exact ⟨enOf_ok k2 he, fun w' hb => tat_at (h.below hb) he _ rfl⟩
    by_cases hlow : t < 0 ∨ (e.hs.length : Int) < t
    · have ez : z = -1 := hlow.elim (fun hh => hz.no (.inr hh)) (fun hh => hz.high hM he hh)
      subst ez
      exact anc_no _ (n : Int) t (enOf r e) hE.1 (e.hs.length : Nat) (Lib.hid rfl) true _ _ rfl rfl (by simp only [Bool.not_true, Bool.false_or, Bool.or_eq_true, decide_eq_true_eq]; exact hlow) w (Lib.hid hE.2)
    · obtain ⟨tn, rfl⟩ := Int.eq_ofNat_of_zero_le (by omega : 0 ≤ t)
      obtain ⟨g, c, hL⟩ := h.leaps (by omega)
      refine (anc_main b g ls.length c ls r M hM h.lp rfl hl9 n (by omega) e he tn (by omega) w (Lib.hid hA) (Lib.hid hL)).mono ?_
      rintro x w' ⟨z', rfl, hu, hb⟩
      have := hz.up hM he (by omega) (by omega)
      rw [Int.toNat_natCast] at this
      rw [hu.det this]
      exact ⟨rfl, hb⟩
  · have ez := hz.no (.inl hp)
    subst ez
    have hE : ∀ w', Below w.heap.size w w' → Calls Tryd.prog 14 #[.pointer (some ⟨b, 0, none⟩), .int .i64 i] w' fun x w'' => x = .returned (.tuple #[.agg (enA enN), .bool false]) ∧ Below w'.heap.size w' w'' := fun w' hb => tat_not (h.below hb) i hp
    exact anc_no _ i t enN enN_ok 0 (Lib.hid rfl) false _ _ rfl rfl rfl w (Lib.hid hE)
theorem anc_nil (i t : Int) (w : World) : Calls Tryd.prog 9 #[.pointer none, .int .i64 i, .int .i64 t] w fun x w' => x = .returned (.int .i64 (-1)) ∧ Below w.heap.size w w' :=
  anc_no _ i t enN enN_ok 0 (Lib.hid rfl) false _ _ rfl rfl rfl w (Lib.hid fun w' _ => tat_nil i w')
set_option maxRecDepth 100000 in
set_option maxHeartbeats 4000000 in
theorem tnew_no (p : NN.Pr) (hp : p.ok) (room : Int) (w : World) (KN : Hid (∀ w', Below w.heap.size w w' → Calls Tryd.prog 11 #[.agg (NN.prA p), .int .i64 room] w' fun e w'' => e = .returned (.tuple #[.pointer none, .int .i64 1]) ∧ Below w'.heap.size w' w'')) :
    Calls Tryd.prog 7 #[.agg (NN.prA p), .int .i64 room] w fun e w' => e = .returned (.tuple #[.pointer none, .int .i64 1]) ∧ Below w.heap.size w w' := by
  have hz := NN.prA_size hp
  go_enter Tryd.func7, Tryd.ntmps7
  go_upto_region 1 with fail
  generalize hw0 : World.alloc _ _ = v0
  have hB : Below w.heap.size w v0 := by rw [← hw0]; exact (Below.refl _ _).alloc (Nat.le_refl _) _
  have hP : NN.PrAt v0 w.heap.size p := by rw [← hw0]; exact NN.Has.new _ _
  clear hw0
  go_wp2_with (first | fail | (with_reducible refine NN.pr_load rfl _ rfl _ rfl hP hz ?_))
  refine (KN.out _ hB).mono ?_
  rintro e v1 ⟨rfl, hb⟩
  replace hB := hB.trans (hb.mono hB.size)
  clear hb hP
  go_wp2_with fail
  go_ret2
  exact ⟨rfl, hB⟩
theorem built_tree (ab : Nat) (v : Value) (hv : v.oneCell' = true) : Tryd.prog.built 47 [(0, .pointer (some ⟨ab, 0, none⟩)), (1, v)] = some (trA ab v) := by
  have h : Tryd.prog.built 47 [(0, .pointer (some ⟨ab, 0, none⟩)), (1, v)] = Instr.fill ((#[(0, 1), (1, 1)] : Array (Nat × Nat))[·]?) #[.pointer none, .slice none 0 0] [(0, .pointer (some ⟨ab, 0, none⟩)), (1, v)] := by kernel_rfl
  rw [h]
  cases v <;> first | rfl | cases hv
set_option maxRecDepth 100000 in
set_option maxHeartbeats 4000000 in
theorem tnew_w (p : NN.Pr) (hp : p.ok) (room : Int) (r : Ru) (w : World) (KN : Hid (∀ w', Below w.heap.size w w' → Calls Tryd.prog 11 #[.agg (NN.prA p), .int .i64 room] w' fun e w'' => ∃ b F, e = .returned (.tuple #[.pointer (some ⟨b, 0, none⟩), .int .i64 0]) ∧ ArS w'' F b r [entZ] ∧ (∀ i, F i → w'.heap.size ≤ i) ∧ Below w'.heap.size w' w'')) :
    Calls Tryd.prog 7 #[.agg (NN.prA p), .int .i64 room] w fun e w' => ∃ b F, e = .returned (.tuple #[.pointer (some ⟨b, 0, none⟩), .int .i64 0]) ∧ TrS w' F b r [entZ] [-1] ∧ (∀ i, F i → w.heap.size ≤ i) ∧ Below w.heap.size w w' := by
  have hz := NN.prA_size hp
  go_enter Tryd.func7, Tryd.ntmps7
  go_upto_region 1 with fail
  generalize hw0 : World.alloc _ _ = v0
  have hB : Below w.heap.size w v0 := by rw [← hw0]; exact (Below.refl _ _).alloc (Nat.le_refl _) _
  have hP : NN.PrAt v0 w.heap.size p := by rw [← hw0]; exact NN.Has.new _ _
  clear hw0
  go_wp2_with (first | fail | (with_reducible refine NN.pr_load rfl _ rfl _ rfl hP hz ?_))
  refine (KN.out _ hB).mono ?_
  rintro e v1 ⟨ab, Fa, rfl, hA, hF, hb⟩
  have hF0 : ∀ i, Fa i → w.heap.size ≤ i := fun i hi => Nat.le_trans hB.size (hF i hi)
  replace hB := hB.trans (hb.mono hB.size)
  clear hb hP hF
  have hmk := fun w => build_one w (-1)
  have hbt := fun g => built_tree ab (.slice (some ⟨g, 0, none⟩) 1 1) rfl
  go_wp2_with fail
  have hL1 : Has (v1.alloc (.cells #[.int .i64 (-1)] 3)) v1.heap.size #[.int .i64 (-1)] 3 := Has.new _ _
  have hbL : Below v1.heap.size v1 (v1.alloc (.cells #[.int .i64 (-1)] 3)) := (Below.refl _ _).alloc (Nat.le_refl _) _
  have hsz : (v1.alloc (.cells #[.int .i64 (-1)] 3)).heap.size = v1.heap.size + 1 := by simp
  generalize v1.alloc (.cells #[.int .i64 (-1)] 3) = v2 at *
  have hT : Has (v2.alloc (.cells (trA ab (.slice (some ⟨v1.heap.size, 0, none⟩) 1 1)) 47)) v2.heap.size (trA ab (.slice (some ⟨v1.heap.size, 0, none⟩) 1 1)) 47 := Has.new _ _
  rw [hsz] at hT
  have hbT : Below v2.heap.size v2 (v2.alloc (.cells (trA ab (.slice (some ⟨v1.heap.size, 0, none⟩) 1 1)) 47)) := (Below.refl _ _).alloc (Nat.le_refl _) _
  have hsz2 : (v2.alloc (.cells (trA ab (.slice (some ⟨v1.heap.size, 0, none⟩) 1 1)) 47)).heap.size = v2.heap.size + 1 := by simp
  go_ret2
  have hb2 : Below v1.heap.size v1 (v2.alloc (.cells (trA ab (.slice (some ⟨v1.heap.size, 0, none⟩) 1 1)) 47)) := hbL.trans (hbT.mono hbL.size)
  have hs := hB.size
  have hA1 := hA.1
  refine ⟨v1.heap.size + 1, fun i => Fa i ∨ i = v1.heap.size ∨ i = v1.heap.size + 1, rfl, ⟨fun i hi => ?_, Fa, ab, .slice (some ⟨v1.heap.size, 0, none⟩) 1 1, hT, hA.below hb2, ⟨rfl, .inr ⟨v1.heap.size, 1, _, rfl, Nat.zero_le _, below_has hbT hL1 (Has.lt hL1), Nat.le_refl _, by decide, rfl, rfl⟩⟩, Lp.one, .inr (.inr rfl), fun i hi => .inl hi, fun i hi => ?_, fun hf => ?_, fun i hi hf => ?_⟩, fun i hi => ?_, hB.trans (hb2.mono hs)⟩
  · show i < (v2.alloc (.cells (trA ab (.slice (some ⟨v1.heap.size, 0, none⟩) 1 1)) 47)).heap.size
    rcases hi with hi | rfl | rfl
    · have := hA1 i hi; omega
    · omega
    · omega
  · exact .inr (.inl (Option.some.inj hi).symm)
  · have := hA1 _ hf; omega
  · have h1 : v1.heap.size = i := Option.some.inj hi
    have := hA1 _ hf; omega
  · rcases hi with hi | rfl | rfl
    · exact hF0 i hi
    · exact hs
    · omega
theorem pr_buildL {w : World} {ops : Array Oper} {rest : List Oper} {o : Oper} {a : Act} {Q : Exit → Act → World → Prop} (hgd : o.guard = none) (ho : o.op = .build 39 #[(0, .const (.int .i64 545259519)), (1, .const (.int .i64 4)), (2, .const (.int .i64 10))])
    (hk : wpList Tryd.prog ops Q rest (a.put o.dst (.agg (NN.prA NN.prL))) w) : wpList Tryd.prog ops Q (o :: rest) a w := NN.pr_build hgd ho hk
set_option maxRecDepth 100000 in
set_option maxHeartbeats 4000000 in
theorem alive13_w (w : World)
    (KN : Hid (Calls Tryd.prog 7 #[.agg (NN.prA NN.prL), .int .i64 5] w fun r w' => ∃ b, r = .returned (.tuple #[.pointer (some ⟨b, 0, none⟩), .int .i64 0]) ∧ (∀ w2, Below w'.heap.size w' w2 → Calls Tryd.prog 8 #[.pointer (some ⟨b, 0, none⟩)] w2 fun e w3 => e = .returned (.int .i64 1) ∧ Below w2.heap.size w2 w3) ∧ (∀ w2, Below w'.heap.size w' w2 → Calls Tryd.prog 9 #[.pointer (some ⟨b, 0, none⟩), .int .i64 0, .int .i64 0] w2 fun e w3 => e = .returned (.int .i64 0) ∧ Below w2.heap.size w2 w3) ∧ Below w.heap.size w w'))
    (K8 : Hid (∀ w', Calls Tryd.prog 5 #[.int .i64 8] w' fun e w'' => e = .returned (.int .i64 0) ∧ Below w'.heap.size w' w''))
    (K7 : Hid (∀ w', Calls Tryd.prog 5 #[.int .i64 7] w' fun e w'' => e = .returned (.int .i64 1) ∧ Below w'.heap.size w' w'')) :
    Calls Tryd.prog 4 #[] w fun e w' => e = .returned (.bool true) ∧ Below w.heap.size w w' := by
  go_enter Tryd.func4, Tryd.ntmps4
  go_wp2_with (with_reducible refine pr_buildL rfl rfl ?_)
  refine KN.out.mono ?_
  rintro e v1 ⟨b, rfl, K1, K2, hB⟩
  have H1 := Lib.hid K1
  have H2 := Lib.hid K2
  clear K1 K2
  go_wp2_with fail
  refine (H1.out _ (Below.refl _ _)).mono ?_
  rintro e v2 ⟨rfl, hb⟩
  replace hB := hB.trans (hb.mono hB.size)
  go_wp2_with fail
  refine (H2.out _ hb).mono ?_
  rintro e v3 ⟨rfl, hb3⟩
  replace hB := hB.trans (hb3.mono hB.size)
  clear hb3 hb
  go_wp2_with fail
  refine (K8.out _).mono ?_
  rintro e v4 ⟨rfl, hb3⟩
  replace hB := hB.trans (hb3.mono hB.size)
  clear hb3
  go_wp2_with fail
  refine (K7.out _).mono ?_
  rintro e v5 ⟨rfl, hb3⟩
  replace hB := hB.trans (hb3.mono hB.size)
  go_wp2_with fail
  go_ret
  exact ⟨rfl, hB⟩
theorem tnew_at (p : NN.Pr) (hp : p.ok) (h1 : p.one) (t : Tl) (tt : p.tl = t.C) (ht : t.ok) (gs : List Gt) (cs : List Ck) (hgn : t.gn = gs.length) (hcn : t.cn = cs.length) (hgl : t.gn ≤ 1000) (hcl : t.cn ≤ 1000) (room : Int) (hgood : ruleP p t.g gs cs = true) (w : World) (hT : Tab w) (hG : GatesAt w t.ga gs) (hC : ChecksAt w t.ca cs) :
    Calls Tryd.prog 7 #[.agg (NN.prA p), .int .i64 room] w fun r w' => ∃ b F, r = .returned (.tuple #[.pointer (some ⟨b, 0, none⟩), .int .i64 0]) ∧ TrS w' F b ⟨p, t.g, gs, cs, clampR room⟩ [entZ] [-1] ∧ (∀ i, F i → w.heap.size ≤ i) ∧ Below w.heap.size w w' :=
  tnew_w p hp room _ w (Lib.hid fun w' hb => new_at p hp h1 t tt ht gs cs hgn hcn hgl hcl room hgood w' (hT.below hb) (hG.below hb) (hC.below hb))
theorem alive13 (w : World) (hT : Tab w) : Calls Tryd.prog 4 #[] w fun e w' => e = .returned (.bool true) ∧ Below w.heap.size w w' := by
  refine alive13_w w ?_ (Lib.hid fun w' => ?_) (Lib.hid fun w' => ?_)
  · refine Lib.hid ((tnew_at NN.prL (NN.tlZ_ok _ _ _ _ _) (NN.tlZ_one _ _ _ _ _) tlN tlN_is tlN_ok [] [] rfl rfl (Nat.zero_le _) (Nat.zero_le _) 5 (by decide +kernel) w hT (fun h => by simp at h) (fun h => by simp at h)).mono ?_)
    rintro r w' ⟨b, F, rfl, hA, _, hb⟩
    have hOk := Ok.one ⟨NN.prL, tlN.g, [], [], clampR 5⟩
    exact ⟨b, rfl, fun w2 h2 => tlen_at (hA.below h2), fun w2 h2 => ancestor_at (hA.below h2) hOk (by decide) 0 0 0 (fun _ => by decide) (.inl ⟨⟨by decide, by decide⟩, by decide, Ar.Up.self hOk (j := 0) (e := entZ) rfl⟩), hb⟩
  · have := height_at 8 (by decide) (by decide) w'
    rwa [show ((Ar.hgt (Int.toNat 8) : Nat) : Int) = 0 from rfl] at this
  · have := height_at 7 (by decide) (by decide) w'
    rwa [show ((Ar.hgt (Int.toNat 7) : Nat) : Int) = 1 from rfl] at this
end Go.Proofs.YtcgnohndfedodaaDoor.An
/-
  SkipHeights: the reference's Height; the law's walk.
-/
namespace Go.Proofs.YtcgnohndfedodaaDoor.An
open Go.RowKit Mem Sc
open Ar (hgt clr)
/-- twice (or once) without the lowest bit -/
def clrs : Nat → Nat → Nat
  | 0, n => n
  | k + 1, n => clrs k (clr n)
theorem clrs_snoc (k n : Nat) : clrs (k + 1) n = clr (clrs k n) := by
  induction k generalizing n with
  | zero => rfl
  | succ k ih => exact ih (clr n)
theorem clrs_le (k n : Nat) : clrs k n ≤ n := by
  induction k generalizing n with
  | zero => exact Nat.le_refl _
  | succ k ih => exact Nat.le_trans (ih (clr n)) (Ar.clr_le n)
theorem hgt_clrs {h : Nat} (h2 : 2 ≤ h) : hgt h = clrs (h % 2 + 1) (h - h % 2) + h % 2 := by
  by_cases he : h % 2 = 0
  · rw [Ar.hgt_even h2 he, he]; rfl
  · have h1 : h % 2 = 1 := by omega
    rw [Ar.hgt_odd h2 h1, h1, Nat.add_comm]; rfl
set_option maxRecDepth 100000
set_option maxHeartbeats 4000000 in
theorem rheight_at (h : Int) (b1 : -9223372036854775808 ≤ h) (b2 : h ≤ 9223372036854775807) (w : World) : Calls Tryd.prog 6 #[.int .i64 h] w fun e w' => e = .returned (.int .i64 ((hgt h.toNat : Nat) : Int)) ∧ Below w.heap.size w w' := by
  have hB := Below.refl w.heap.size w
  by_cases hs : h < 2
  · have t1 : decide (h < 2) = true := decide_eq_true hs
    have e0 : hgt h.toNat = 0 := Ar.hgt_small (by omega)
    rw [e0]
    clear e0 hs
    go_enter Tryd.func6, Tryd.ntmps6
    go_wp2_with fail
    go_ret
    exact ⟨rfl, hB⟩
  · obtain ⟨m, rfl⟩ := Int.eq_ofNat_of_zero_le (by omega : 0 ≤ h)
    have t1 : decide ((m : Int) < 2) = false := decide_eq_false hs
    rw [Int.toNat_natCast]
    obtain ⟨od, hod⟩ : ∃ od, od = m % 2 := ⟨_, rfl⟩
    obtain ⟨n0, hn0⟩ : ∃ n0, n0 = m - od := ⟨_, rfl⟩
    have hw1 : Int.tmod (m : Int) 2 = (od : Int) := by rw [Int.tmod_eq_emod_of_nonneg (by omega)]; omega
    have hw2 : IntKind.i64.wrap ((m : Int) - (od : Int)) = (n0 : Int) := by rw [IntKind.wrap_i64]; omega
    have od1 : od ≤ 1 := by omega
    have n063 : n0 < 9223372036854775808 := by omega
    have HF : Hid (hgt m = clrs (od + 1) n0 + od) := Lib.hid (by rw [hgt_clrs (by omega), ← hod, ← hn0])
    have HE : Hid (n0 + od = m ∧ m < 9223372036854775808) := Lib.hid (by omega)
    clear hod hn0 hs b1 b2
    go_enter Tryd.func6, Tryd.ntmps6
    go_wp2_with fail
    go_loopw [4, 5] (fun v i wr => ∃ (k : Nat) (x : Int), k ≤ od + 1 ∧ v = .int .i64 x ∧ i = .int .i64 (k : Int) ∧ Hid (x = ((clrs k n0 : Nat) : Int)) ∧ Below w.heap.size w wr) (fun _ i _ => od + 1 - (intOf i).toNat)
    case atStart => exact ⟨0, (n0 : Int), by omega, rfl, rfl, Lib.hid rfl, hB⟩
    case round =>
      clear hB
      obtain ⟨k, x, hk, rfl, rfl, HK, hB⟩ := hrel
      by_cases hlt : k ≤ od
      · obtain ⟨nk, hnk⟩ : ∃ nk, nk = clrs k n0 := ⟨_, rfl⟩
        have HK1 : Hid (clr nk = clrs (k + 1) n0) := Lib.hid (by rw [clrs_snoc, hnk])
        have hnb : nk < 9223372036854775808 := by have := clrs_le k n0; omega
        have HX : Hid (x = (nk : Int)) := Lib.hid (by rw [hnk]; exact HK.out)
        clear hnk HK
        go_wp2_with fail
        by_cases hz : 0 < nk
        · have t2 : decide (0 < x) = true := decide_eq_true (by have := HX.out; omega)
          go_loopw [6] (fun i ws => ∃ (y : Int), i = .int .i64 y ∧ Hid (∃ j low : Nat, y = (low : Int) ∧ low = 2 ^ j ∧ 2 ^ j ∣ nk) ∧ Below w.heap.size w ws) (fun i _ => nk - (intOf i).toNat)
          case atStart => exact ⟨1, rfl, Lib.hid ⟨0, 1, rfl, rfl, by simp⟩, hB⟩
          case round =>
            clear hB
            obtain ⟨y, rfl, HY, hB⟩ := hrel
            obtain ⟨j, low, hy, hl1, hl2⟩ := HY.out
            have hle : low ≤ nk := by rw [hl1]; exact Ar.low_le hl2 hz
            have hl0 : 0 < low := by rw [hl1]; exact Nat.pow_pos (by decide)
            obtain ⟨qn, hqn⟩ : ∃ qn : Nat, qn = nk / low := ⟨_, rfl⟩
            obtain ⟨q, hq⟩ : ∃ q : Int, q = (qn : Int) := ⟨_, rfl⟩
            obtain ⟨q2, hq2⟩ : ∃ q2 : Int, q2 = ((qn % 2 : Nat) : Int) := ⟨_, rfl⟩
            have hw4 : Int.tmod q 2 = q2 := by rw [Int.tmod_eq_emod_of_nonneg (by omega)]; omega
            have hw3 : Int.tdiv x y = q := by rw [HX.out, hy, hq, hqn, Int.tdiv_eq_ediv_of_nonneg (by omega), Int.natCast_ediv]
            have hqle : qn ≤ nk := by rw [hqn]; exact Nat.div_le_self _ _
            have hw9 : IntKind.i64.wrap q = q := by rw [IntKind.wrap_i64]; omega
            have hl3 : ¬ y = 0 := by omega
            have hx := HX.out
            by_cases hev : qn % 2 = 0
            · have t4 : (q2 == 0) = true := by rw [beq_iff_eq]; omega
              have hd := Ar.low_next hl2 (by rw [← hl1, ← hqn]; exact hev)
              have hle2 : 2 ^ (j + 1) ≤ nk := Ar.low_le hd hz
              have hl4 : 2 * low = 2 ^ (j + 1) := by rw [hl1, Nat.pow_succ, Nat.mul_comm]
              obtain ⟨y2, hy2⟩ : ∃ y2 : Int, y2 = 2 * y := ⟨_, rfl⟩
              have hw5 : IntKind.i64.wrap (2 * y) = y2 := by rw [IntKind.wrap_i64]; omega
              have HD : Hid (∃ j low : Nat, y2 = (low : Int) ∧ low = 2 ^ j ∧ 2 ^ j ∣ nk) := Lib.hid ⟨j + 1, 2 * low, by omega, hl4, hd⟩
              have HM : Hid (y < y2 ∧ y2 ≤ (nk : Int) ∧ 0 ≤ y) := Lib.hid ⟨by omega, by omega, by omega⟩
              clear hqle hqn hq hq2 hev hd hle2 hl4 hy2 hy hl1 hl2 hle hl0 hx HY
              go_wp2_with fail
              go_roundw
              case rel => exact ⟨y2, rfl, HD, hB⟩
              case measure => have q9 := HM.out; simp [intOf]; omega
            · have t4 : (q2 == 0) = false := by rw [beq_eq_false_iff_ne]; omega
              have hcl := Ar.clr_low hl2 (by rw [← hl1, ← hqn]; omega)
              rw [← hl1] at hcl
              obtain ⟨x2, hx2⟩ : ∃ x2 : Int, x2 = x - y := ⟨_, rfl⟩
              have hw6 : IntKind.i64.wrap (x - y) = x2 := by rw [IntKind.wrap_i64]; omega
              have HN : Hid (x2 = ((clrs (k + 1) n0 : Nat) : Int)) := Lib.hid (by rw [← HK1.out, ← hcl.1]; omega)
              clear hqle hqn hq hq2 hev hcl hx2 hy hl1 hl2 hle hl0 hx HY
              go_wp2_with fail
              go_roundw
              case rel => exact ⟨k + 1, x2, by omega, rfl, by go_num, HN, hB⟩
              case measure => simp [intOf]; omega
        · have t2 : decide (0 < x) = false := decide_eq_false (by have := HX.out; omega)
          have HN : Hid (x = ((clrs (k + 1) n0 : Nat) : Int)) := Lib.hid (by
            obtain rfl : nk = 0 := by omega
            rw [← HK1.out, HX.out]; rfl)
          clear HK1
          go_loopw [6] (fun i ws => ∃ low : Int, i = .int .i64 low ∧ Below w.heap.size w ws) (fun _ _ => 0)
          case atStart => exact ⟨1, rfl, hB⟩
          case round =>
            clear hB
            obtain ⟨low, rfl, hB⟩ := hrel
            go_wp2_with fail
            go_roundw
            case rel => exact ⟨k + 1, x, by omega, rfl, by go_num, HN, hB⟩
            case measure => simp [intOf]; omega
      · obtain rfl : k = od + 1 := by omega
        have hcl := clrs_le (od + 1) n0
        obtain ⟨z, hz⟩ : ∃ z : Int, z = x + (od : Int) := ⟨_, rfl⟩
        have hw8 : IntKind.i64.wrap (x + (od : Int)) = z := by have := HE.out; have := HK.out; rw [IntKind.wrap_i64]; omega
        have HZ : Hid (((hgt m : Nat) : Int) = z) := Lib.hid (by rw [HF.out, hz, HK.out]; omega)
        clear hcl hz HK HF
        go_wp2_with fail
        go_ret
        exact ⟨by rw [HZ.out]; rfl, hB⟩
/-- the law -/
theorem heights_w (h : Int) (g1 g2 : Bool) (n : Int) (h1 : decide (h < 2) = g1) (h2 : decide (2 ≤ h) = g2) (w : World) (K0 : g1 = true → n = 0) (K1 : g1 = false → g2 = true ∧ 0 ≤ n ∧ n < h)
    (KA : Hid (∀ w', Below w.heap.size w w' → Calls Tryd.prog 4 #[] w' fun e w'' => e = .returned (.bool true) ∧ Below w'.heap.size w' w''))
    (KH : Hid (∀ w', Calls Tryd.prog 5 #[.int .i64 h] w' fun e w'' => e = .returned (.int .i64 n) ∧ Below w'.heap.size w' w''))
    (KR : Hid (∀ w', Calls Tryd.prog 6 #[.int .i64 h] w' fun e w'' => e = .returned (.int .i64 n) ∧ Below w'.heap.size w' w'')) :
    Calls Tryd.prog 3 #[.int .i64 h] w fun e w' => e = .returned (.bool true) ∧ Below w.heap.size w w' := by
  have hB := Below.refl w.heap.size w
  have tn : (n == n) = true := by simp
  cases g1
  · obtain ⟨rfl, h3, h4⟩ := K1 rfl
    have t3 : decide (0 ≤ n) = true := decide_eq_true h3
    have t4 : decide (n < h) = true := decide_eq_true h4
    clear K0 K1 h3 h4
    go_enter Tryd.func3, Tryd.ntmps3
    go_wp2_with fail
    refine (KA.out _ hB).mono ?_
    rintro e v1 ⟨rfl, hb⟩
    replace hB := hB.trans (hb.mono hB.size)
    clear hb
    go_wp2_with fail
    refine (KH.out _).mono ?_
    rintro e v2 ⟨rfl, hb⟩
    replace hB := hB.trans (hb.mono hB.size)
    clear hb
    go_wp2_with fail
    refine (KR.out _).mono ?_
    rintro e v3 ⟨rfl, hb⟩
    replace hB := hB.trans (hb.mono hB.size)
    clear hb
    go_wp2_with fail
    go_ret
    exact ⟨rfl, hB⟩
  · obtain rfl := K0 rfl
    clear K0 K1
    go_enter Tryd.func3, Tryd.ntmps3
    go_wp2_with fail
    refine (KA.out _ hB).mono ?_
    rintro e v1 ⟨rfl, hb⟩
    replace hB := hB.trans (hb.mono hB.size)
    clear hb
    go_wp2_with fail
    refine (KH.out _).mono ?_
    rintro e v2 ⟨rfl, hb⟩
    replace hB := hB.trans (hb.mono hB.size)
    clear hb
    go_wp2_with fail
    refine (KR.out _).mono ?_
    rintro e v3 ⟨rfl, hb⟩
    replace hB := hB.trans (hb.mono hB.size)
    clear hb
    go_wp2_with fail
    go_ret
    exact ⟨rfl, hB⟩
theorem heights_walk (h : Int) (b1 : -9223372036854775808 ≤ h) (b2 : h ≤ 9223372036854775807) (w : World) (hT : Tab w) : Calls Tryd.prog 3 #[.int .i64 h] w fun e w' => e = .returned (.bool true) ∧ Below w.heap.size w w' := by
  refine heights_w h _ _ ((hgt h.toNat : Nat) : Int) rfl rfl w (fun h0 => ?_) (fun h0 => ?_) (Lib.hid fun w' hb => alive13 w' (hT.below hb)) (Lib.hid fun w' => height_at h b2 b1 w') (Lib.hid fun w' => rheight_at h b1 b2 w')
  · have := of_decide_eq_true h0
    rw [Ar.hgt_small (by omega)]; rfl
  · have h3 := of_decide_eq_false h0
    have := Ar.hgt_lt (h := h.toNat) (by omega)
    exact ⟨decide_eq_true (by omega), by omega, by omega⟩
end Go.Proofs.YtcgnohndfedodaaDoor.An
