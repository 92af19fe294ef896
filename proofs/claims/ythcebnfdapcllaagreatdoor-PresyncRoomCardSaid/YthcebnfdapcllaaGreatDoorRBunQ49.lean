import Derived.Test.YthcebnfdapcllaaGreatDoorRBunQ46
import Derived.Test.YthcebnfdapcllaaGreatDoorRBunQ39
import Derived.Test.YthcebnfdapcllaaGreatDoorRBunQ37
import Derived.Test.YthcebnfdapcllaaGreatDoorRBunQ48
import Derived.Test.YthcebnfdapcllaaGreatDoorRBunQ12
import Derived.Test.YthcebnfdapcllaaGreatDoorRPyMost
import Derived.Test.YthcebnfdapcllaaGreatDoorRBunQ44
namespace Go.Proofs.YthcebnfdapcllaaGreatDoor.An
open Go.RowKit Mem Sc NN.Rg2
open Pg (Pl pbit gv Ws)
set_option maxRecDepth 100000
structure Sy where
  ph : Int
  p : NN.Pr
  s : Sp
  sw : Nat
  a : Sp
  aw : Nat
  k : Option Addr
  n : Int
  m : Int
  z : Int
  v : Value
def nmC (n : Nat) : List Value := (NN.numC n).toList
def stC (s : Sp) (n : Nat) : List Value := spC s ++ nmC n
def stA (s : Sp) (n : Nat) : Array Value := (stC s n).toArray
def syC (y : Sy) : List Value := .int .i64 y.ph :: (NN.prC y.p ++ (spC y.s ++ (nmC y.sw ++ (spC y.a ++ (nmC y.aw ++ [.pointer y.k, .int .i64 y.n, .int .i64 y.m, .int .i64 y.z, y.v])))))
def syA (y : Sy) : Array Value := (syC y).toArray
structure Sy.Ok (y : Sy) : Prop where
  p : y.p.ok
  one : y.p.one
  s : y.s.ok
  a : y.a.ok
  v : ∃ g n c, y.v = .slice g n c
theorem prL {p : NN.Pr} (h : p.ok) : (NN.prC p).length = 83 := by
  have := NN.prA_size h
  rwa [show (NN.prA p).size = (NN.prC p).length from by unfold NN.prA; simp] at this
theorem nmL (n : Nat) : (nmC n).length = 4 := rfl
theorem stL {s : Sp} (h : s.ok) (n : Nat) : (stC s n).length = 42 := by simp [stC, spC_length h, nmL]
theorem stA_size {s : Sp} (h : s.ok) (n : Nat) : (stA s n).size = 42 := by simp [stA, stL h]
theorem syL {y : Sy} (h : y.Ok) : (syC y).length = 173 := by simp [syC, prL h.p, spC_length h.s, spC_length h.a, nmL]
theorem syA_size {y : Sy} (h : y.Ok) : (syA y).size = 173 := by simp [syA, syL h]
theorem nm_one (n : Nat) : ∀ v ∈ nmC n, v.oneCell' = true := fun v hv => by
  have := NN.numC_one n
  rw [Array.all_eq_true_iff_forall_mem] at this
  exact this v (by simpa [nmC] using hv)
theorem stC_one (s : Sp) (n : Nat) : ∀ v ∈ stC s n, v.oneCell' = true := fun v hv => by
  rcases List.mem_append.1 hv with h | h
  · exact spC_one s v h
  · exact nm_one n v h
theorem stA_one (s : Sp) (n : Nat) : (stA s n).all (·.oneCell') = true := all_oneCell_toArray (stC_one s n)
theorem syC_one {y : Sy} (h : y.Ok) : ∀ v ∈ syC y, v.oneCell' = true := fun v hv => by
  obtain ⟨g, n, c, e⟩ := h.v
  simp only [syC, List.mem_cons, List.mem_append, List.not_mem_nil, or_false] at hv
  rcases hv with rfl | hv | hv | hv | hv | hv | rfl | rfl | rfl | rfl | rfl
  · rfl
  · exact NN.prC_one h.one v hv
  · exact spC_one _ v hv
  · exact nm_one _ v hv
  · exact spC_one _ v hv
  · exact nm_one _ v hv
  · rfl
  · rfl
  · rfl
  · rfl
  · rw [e]; rfl
theorem syA_one {y : Sy} (h : y.Ok) : (syA y).all (·.oneCell') = true := all_oneCell_toArray (syC_one h)
theorem syinfo : (Tryz.prog.info? 73).map (·.size) = some 173 := by kernel_rfl
theorem stinfo : (Tryz.prog.info? 63).map (·.size) = some 42 := by kernel_rfl
def SyAt (w : World) (b : Nat) (y : Sy) : Prop := Has w b (syA y) 73
section
variable {w w' : World} {b : Nat} {y : Sy}
theorem SyAt.part (h : SyAt w b y) (A cs C : List Value) (e : syC y = A ++ (cs ++ C)) {o : Nat} (hA : A.length = o) : w.rangeAt b o cs :=
  range_of (by unfold SyAt syA at h; rw [e] at h; exact h) hA
theorem SyAt.put (h : SyAt w b y) (A B C vs : List Value) (e : syC y = A ++ (B ++ C)) {o : Nat} (hA : A.length = o) (hB : B.length = vs.length) (y' : Sy) (e' : syC y' = A ++ (vs ++ C)) : SyAt (w.setCells b o vs) b y' := by
  unfold SyAt syA at h ⊢
  rw [e] at h
  rw [e']
  exact has_setCells b _ vs o w A B C h hA hB
theorem SyAt.free (h : SyAt w b y) (j : Nat) : w.frozen? ⟨b, j, none⟩ = false := Has.free h j
theorem SyAt.there (h : SyAt w b y) (ho : y.Ok) (o n : Nat) (hn : o + n ≤ 173) : w.there b o n := fun j hj => ⟨by
  rw [Has.cell h (o + j), Array.getElem?_eq_getElem (by rw [syA_size ho]; omega)]
  rfl, h.free _⟩
theorem SyAt.ph (h : SyAt w b y) : w.cell? ⟨b, 0, none⟩ = some (.int .i64 y.ph) := Has.cell h 0
theorem SyAt.rules (h : SyAt w b y) : w.rangeAt b 1 (NN.prC y.p) := h.part [.int .i64 y.ph] _ _ rfl rfl
theorem SyAt.start (h : SyAt w b y) (ho : y.Ok) : w.rangeAt b 84 (stC y.s y.sw) := h.part (.int .i64 y.ph :: NN.prC y.p) _ (spC y.a ++ (nmC y.aw ++ [.pointer y.k, .int .i64 y.n, .int .i64 y.m, .int .i64 y.z, y.v])) (by simp [syC, stC]) (by simp [prL ho.p])
def syH (y : Sy) : List Value := .int .i64 y.ph :: (NN.prC y.p ++ (spC y.s ++ nmC y.sw))
def syT (y : Sy) : List Value := [.pointer y.k, .int .i64 y.n, .int .i64 y.m, .int .i64 y.z, y.v]
theorem syHL (ho : y.Ok) : (syH y).length = 126 := by simp [syH, prL ho.p, spC_length ho.s, nmL]
theorem sy_at (y : Sy) : syC y = syH y ++ (spC y.a ++ (nmC y.aw ++ syT y)) := by simp [syC, syH, syT]
theorem SyAt.spot (h : SyAt w b y) (ho : y.Ok) : w.rangeAt b 126 (spC y.a) := h.part (syH y) _ _ (sy_at y) (syHL ho)
theorem SyAt.work (h : SyAt w b y) (ho : y.Ok) : w.rangeAt b 164 (nmC y.aw) := h.part (syH y ++ spC y.a) _ (syT y) (by rw [sy_at]; simp) (by simp [syHL ho, spC_length ho.a])
theorem SyAt.tail (h : SyAt w b y) (ho : y.Ok) : w.rangeAt b 168 (syT y) := h.part (syH y ++ (spC y.a ++ nmC y.aw)) _ [] (by rw [sy_at]; simp) (by simp [syHL ho, spC_length ho.a, nmL])
theorem SyAt.k (h : SyAt w b y) (ho : y.Ok) : w.cell? ⟨b, 168, none⟩ = some (.pointer y.k) := h.tail ho 0 _ rfl
theorem SyAt.n (h : SyAt w b y) (ho : y.Ok) : w.cell? ⟨b, 169, none⟩ = some (.int .i64 y.n) := h.tail ho 1 _ rfl
theorem SyAt.m (h : SyAt w b y) (ho : y.Ok) : w.cell? ⟨b, 170, none⟩ = some (.int .i64 y.m) := h.tail ho 2 _ rfl
theorem SyAt.z (h : SyAt w b y) (ho : y.Ok) : w.cell? ⟨b, 171, none⟩ = some (.int .i64 y.z) := h.tail ho 3 _ rfl
theorem SyAt.v (h : SyAt w b y) (ho : y.Ok) : w.cell? ⟨b, 172, none⟩ = some y.v := h.tail ho 4 _ rfl
theorem SyAt.height (h : SyAt w b y) (ho : y.Ok) : w.cell? ⟨b, 126, none⟩ = some (.int .i64 y.a.x.h) := h.spot ho 0 _ rfl
theorem SyAt.prev (h : SyAt w b y) (ho : y.Ok) : w.rangeAt b 131 (Lib.byteCells y.a.prev) := fun j u hu => by
  have := h.spot ho (5 + j) u (spC_prev j u hu)
  rwa [show 126 + (5 + j) = 131 + j by omega] at this
theorem SyAt.mw (h : SyAt w b y) (t : Tl) (tt : y.p.tl = t.C) (c : Nat) (hn : ∃ r, t.nn = nmC c ++ r) : w.rangeAt b 8 (nmC c) := fun j u hu => by
  obtain ⟨r, hr⟩ := hn
  have hj : j < 4 := (List.getElem?_eq_some_iff.1 hu).1
  have := h.rules (7 + j) u (by
    unfold NN.prC
    rw [tt]
    unfold Tl.C
    rw [hr, show 7 + j = j + 1 + 1 + 1 + 1 + 1 + 1 + 1 by omega]
    show ((nmC c ++ r) ++ hdC t.g)[j]? = some u
    rw [List.append_assoc, List.getElem?_append_left hj]
    exact hu)
  rwa [show 1 + (7 + j) = 8 + j by omega] at this
theorem SyAt.setPh (h : SyAt w b y) (z : Int) : SyAt (w.setCell ⟨b, 0, none⟩ (.int .i64 z)) b { y with ph := z } := h.put [] [.int .i64 y.ph] _ [.int .i64 z] rfl rfl rfl _ rfl
theorem SyAt.setA (h : SyAt w b y) (ho : y.Ok) (s : Sp) (hs : s.ok) : SyAt (w.setCells b 126 (spC s)) b { y with a := s } := h.put (syH y) (spC y.a) _ (spC s) (sy_at y) (syHL ho) (by rw [spC_length ho.a, spC_length hs]) _ (sy_at _)
theorem SyAt.setW (h : SyAt w b y) (ho : y.Ok) (c : Nat) : SyAt (w.setCells b 164 (nmC c)) b { y with aw := c } := h.put (syH y ++ spC y.a) (nmC y.aw) (syT y) (nmC c) (by rw [sy_at]; simp) (by simp [syHL ho, spC_length ho.a]) rfl _ (by rw [sy_at]; simp [syH, syT])
theorem SyAt.setSt (h : SyAt w b y) (ho : y.Ok) (s : Sp) (hs : s.ok) (c : Nat) : SyAt (w.setCells b 126 (stC s c)) b { y with a := s, aw := c } := h.put (syH y) (stC y.a y.aw) (syT y) (stC s c) (by rw [sy_at]; simp [stC]) (syHL ho) (by rw [stL ho.a, stL hs]) _ (by rw [sy_at]; simp [stC, syH, syT])
theorem SyAt.setPrev (h : SyAt w b y) (ho : y.Ok) (q : List UInt8) (hq : q.length = 32) : SyAt (w.setCells b 131 (Lib.byteCells q)) b { y with a := { y.a with prev := q } } := by
  refine h.put (syH y ++ [.int .i64 y.a.x.h, .int .i64 y.a.x.b, .int .i64 y.a.x.t, .int .i64 y.a.x.f, .int .i64 y.a.x.r]) (Lib.byteCells y.a.prev) ([.slice y.a.a y.a.n y.a.c] ++ (nmC y.aw ++ syT y)) (Lib.byteCells q) (by rw [sy_at]; simp [spC]) (by simp [syHL ho]) (by rw [Lib.byteCells_length, Lib.byteCells_length, hq, show y.a.prev.length = 32 from ho.a]) _ (by rw [sy_at]; simp [spC, syH, syT])
theorem syHAL (ho : y.Ok) : (syH y ++ (spC y.a ++ nmC y.aw)).length = 168 := by simp [syHL ho, spC_length ho.a, nmL]
theorem SyAt.setN (h : SyAt w b y) (ho : y.Ok) (z : Int) : SyAt (w.setCell ⟨b, 169, none⟩ (.int .i64 z)) b { y with n := z } := h.put (syH y ++ (spC y.a ++ nmC y.aw) ++ [.pointer y.k]) [.int .i64 y.n] [.int .i64 y.m, .int .i64 y.z, y.v] [.int .i64 z] (by rw [sy_at]; simp [syT]) (by rw [List.length_append, syHAL ho]; rfl) rfl _ (by rw [sy_at]; simp [syH, syT])
theorem SyAt.setV (h : SyAt w b y) (ho : y.Ok) (v : Value) : SyAt (w.setCell ⟨b, 172, none⟩ v) b { y with v := v } := h.put (syH y ++ (spC y.a ++ nmC y.aw) ++ [.pointer y.k, .int .i64 y.n, .int .i64 y.m, .int .i64 y.z]) [y.v] [] [v] (by rw [sy_at]; simp [syT]) (by rw [List.length_append, syHAL ho]; rfl) rfl _ (by rw [sy_at]; simp [syH, syT])
theorem Sy.Ok.setA (ho : y.Ok) {s : Sp} (hs : s.ok) (c : Nat) : ({ y with a := s, aw := c } : Sy).Ok := ⟨ho.p, ho.one, ho.s, hs, ho.v⟩
end
def prZ0 : NN.Pr := ⟨0, 0, 0, 0, false, Value.slice none 0 0 :: Value.slice none 0 0 :: (nmC 0 ++ (nmC 0 ++ hdC hdZ))⟩
theorem prZ0_ok : prZ0.ok := rfl
theorem prZ0_one : prZ0.one := fun v hv => by
  have h : prZ0.tl.all (·.oneCell') = true := by kernel_rfl
  rw [List.all_eq_true] at h
  exact h v hv
def syZ : Sy := ⟨0, prZ0, spZ, 0, spZ, 0, none, 0, 0, 0, .slice none 0 0⟩
theorem built_sy (parts : List (Nat × Value)) : Tryz.prog.built 73 parts = Instr.fill ((#[(0, 1), (1, 83), (84, 42), (126, 42), (168, 1), (169, 1), (170, 1), (171, 1), (172, 1)] : Array (Nat × Nat))[·]?) (syA syZ) parts := by kernel_rfl
theorem built_st (parts : List (Nat × Value)) : Tryz.prog.built 63 parts = Instr.fill ((#[(0, 38), (38, 4)] : Array (Nat × Nat))[·]?) (stA spZ 0) parts := by kernel_rfl
theorem built_start (s : Sp) (hs : s.ok) (c : Nat) : Tryz.prog.built 63 [(0, .agg (spA s)), (1, .agg (NN.numC c))] = some (stA s c) := by
  rw [built_st]
  unfold stA stC
  rw [show spC spZ ++ nmC 0 = [] ++ (spC spZ ++ nmC 0) from rfl,
    fill_step (off := 0) (n := 38) [] (spC spZ) _ (spC s) rfl rfl rfl rfl (spC_length hs),
    show [] ++ (spC s ++ nmC 0) = spC s ++ (nmC 0 ++ []) by simp,
    fill_step (off := 38) (n := 4) (spC s) (nmC 0) [] (nmC c) rfl (spC_length hs) rfl rfl rfl, fill_nil]
  simp
theorem built_end (ph n : Int) : Tryz.prog.built 73 [(0, .int .i64 ph), (5, .int .i64 n)] = some (syA { syZ with ph := ph, n := n }) := by
  rw [built_sy]
  kernel_rfl
theorem built_new (p : NN.Pr) (hp : p.ok) (s : Sp) (hs : s.ok) (c : Nat) (k : Option Addr) (m z : Int) : Tryz.prog.built 73 [(0, .int .i64 1), (1, .agg (NN.prA p)), (2, .agg (stA s c)), (3, .agg (stA s c)), (4, .pointer k), (6, .int .i64 m), (7, .int .i64 z)] = some (syA ⟨1, p, s, c, s, c, k, 0, m, z, .slice none 0 0⟩) := by
  rw [built_sy]
  have h1 := prL hp
  have h2 := stL hs c
  obtain ⟨X, hX⟩ : ∃ X, X = NN.prC p := ⟨_, rfl⟩
  obtain ⟨Y, hY⟩ : ∃ Y, Y = stC s c := ⟨_, rfl⟩
  have e : (syA ⟨1, p, s, c, s, c, k, 0, m, z, .slice none 0 0⟩) = ([Value.int .i64 1] ++ (X ++ (Y ++ (Y ++ ([Value.pointer k] ++ ([Value.int .i64 0] ++ ([Value.int .i64 m] ++ ([Value.int .i64 z] ++ [Value.slice none 0 0])))))))).toArray := by
    subst hX hY
    simp [syA, syC, stC]
  rw [e, show (NN.prA p) = X.toArray by subst hX; rfl, show stA s c = Y.toArray by subst hY; rfl]
  rw [← hX] at h1
  rw [← hY] at h2
  have i1 : ∀ (z : Int), [Value.int .i64 z].length = 1 := fun _ => rfl
  rw [show syA syZ = ([] ++ ([Value.int .i64 0] ++ (NN.prC prZ0 ++ (stC spZ 0 ++ (stC spZ 0 ++ ([Value.pointer none] ++ ([Value.int .i64 0] ++ ([Value.int .i64 0] ++ ([Value.int .i64 0] ++ [Value.slice none 0 0]))))))))).toArray from rfl,
    fill_step (off := 0) (n := 1) [] [Value.int .i64 0] _ [Value.int .i64 1] rfl rfl rfl rfl rfl, List.nil_append,
    fill_step (off := 1) (n := 83) [Value.int .i64 1] (NN.prC prZ0) _ X rfl rfl (prL prZ0_ok) rfl h1, ← List.append_assoc [Value.int .i64 1],
    fill_step (off := 84) (n := 42) ([Value.int .i64 1] ++ X) (stC spZ 0) _ Y rfl (by simp [h1]) rfl rfl h2, ← List.append_assoc ([Value.int .i64 1] ++ X),
    fill_step (off := 126) (n := 42) ([Value.int .i64 1] ++ X ++ Y) (stC spZ 0) _ Y rfl (by simp [h1, h2]) rfl rfl h2, ← List.append_assoc ([Value.int .i64 1] ++ X ++ Y),
    fill_step (off := 168) (n := 1) ([Value.int .i64 1] ++ X ++ Y ++ Y) [Value.pointer none] _ [Value.pointer k] rfl (by simp [h1, h2]) rfl rfl rfl, ← List.append_assoc ([Value.int .i64 1] ++ X ++ Y ++ Y), ← List.append_assoc ([Value.int .i64 1] ++ X ++ Y ++ Y ++ [Value.pointer k]),
    fill_step (off := 170) (n := 1) ([Value.int .i64 1] ++ X ++ Y ++ Y ++ [Value.pointer k] ++ [Value.int .i64 0]) [Value.int .i64 0] _ [Value.int .i64 m] rfl (by simp [h1, h2]) rfl rfl rfl, ← List.append_assoc ([Value.int .i64 1] ++ X ++ Y ++ Y ++ [Value.pointer k] ++ [Value.int .i64 0]),
    fill_step (off := 171) (n := 1) ([Value.int .i64 1] ++ X ++ Y ++ Y ++ [Value.pointer k] ++ [Value.int .i64 0] ++ [Value.int .i64 m]) [Value.int .i64 0] _ [Value.int .i64 z] rfl (by simp [h1, h2]) rfl rfl rfl, fill_nil]
  simp
end Go.Proofs.YthcebnfdapcllaaGreatDoor.An
namespace Go.Proofs.YthcebnfdapcllaaGreatDoor.An
open Go.RowKit Mem Sc NN.Rg2
open Pg (Pl pbit gv Ws)
set_option maxRecDepth 100000
structure Sd where
  t : Tl
  gs : List Gt
  cs : List Ck
  c : Nat
  qs : Ps
  qa : Ps
  k : Nat
  bv : Value
  x : Pl
  bs : List Bool
  mm : Nat
  L : List Hd
structure SyL (w : World) (I : Nat → Prop) (b : Nat) (y : Sy) (d : Sd) : Prop where
  has : SyAt w b y
  ok : y.Ok
  tt : y.p.tl = d.t.C
  tok : d.t.ok
  gn : d.t.gn = d.gs.length
  cn : d.t.cn = d.cs.length
  gl : d.t.gn ≤ 1000
  cl : d.t.cn ≤ 1000
  mw : ∃ r, d.t.nn = nmC d.c ++ r
  cb : d.c < NN.Nm.big
  sb : y.sw < NN.Nm.big
  ab : y.aw < NN.Nm.big
  gates : Sup I (fun w => GatesAt w d.t.ga d.gs) w
  checks : Sup I (fun w => ChecksAt w d.t.ca d.cs) w
  ss : Sup I (fun w => SpIs w 0 y.s d.qs) w
  sa : Sup I (fun w => SpIs w 0 y.a d.qa) w
  ls : d.qs.ts.length ≤ 11 ∧ 0 ≤ d.qs.x.h
  la : d.qa.ts.length ≤ 11 ∧ 0 ≤ d.qa.x.h
  bk : y.k = some ⟨d.k, 0, none⟩
  book : BookAt w d.k d.bv d.x d.bs d.mm
  row : w.ownsRow 0 30 68 y.v d.L.length (headersC d.L)
  lok : ∀ h ∈ d.L, h.ok
  nb : ¬ I b
  nk : ¬ I d.k
  nbv : ∀ i, d.bv.ownBlock = some i → ¬ I i
  nv : ∀ i, y.v.ownBlock = some i → ¬ I i
  d1 : b ≠ d.k
  d2 : ∀ i, d.bv.ownBlock = some i → i ≠ b
  d3 : ∀ i, y.v.ownBlock = some i → i ≠ b ∧ i ≠ d.k ∧ d.bv.ownBlock ≠ some i
  lt : ∀ i, I i → i < w.heap.size
def PyM (I : Nat → Prop) (b k : Nat) (bv v : Value) : Nat → Prop := fun i => I i ∨ i = b ∨ i = k ∨ bv.ownBlock = some i ∨ v.ownBlock = some i
section
variable {w w' : World} {I I' G : Nat → Prop} {b : Nat} {y y' : Sy} {d d' : Sd}
theorem SyL.mine_lt (h : SyL w I b y d) {i : Nat} (hi : PyM I b d.k d.bv y.v i) : i < w.heap.size := by
  rcases hi with hi | rfl | rfl | hi | hi
  · exact h.lt i hi
  · exact Has.lt h.has
  · exact h.book.lt
  · exact (h.book.ownLt hi).2
  · exact (row_lt h.row hi).1
theorem book_kp {k : Nat} {v : Value} {x : Pl} {bs : List Bool} {m : Nat} (h : BookAt w k v x bs m) (kp : Kp G w w') (h1 : ¬ G k) (h2 : ∀ i, v.ownBlock = some i → ¬ G i) : BookAt w' k v x bs m := by
  obtain ⟨ws, ho, hw⟩ := h.own
  exact ⟨kp.has h.cell h1, ⟨ws, kp_row ho kp h2, hw⟩, h.good, h.met, h.few⟩
theorem SyL.on (h : SyL w I b y d) (k : Kp G w w') (hG : ∀ i, PyM I b d.k d.bv y.v i → ¬ G i) : SyL w' I b y d where
  has := k.has h.has (hG b (.inr (.inl rfl)))
  ok := h.ok
  tt := h.tt
  tok := h.tok
  gn := h.gn
  cn := h.cn
  gl := h.gl
  cl := h.cl
  mw := h.mw
  cb := h.cb
  sb := h.sb
  ab := h.ab
  gates := h.gates.on k fun i hi => hG i (.inl hi)
  checks := h.checks.on k fun i hi => hG i (.inl hi)
  ss := h.ss.on k fun i hi => hG i (.inl hi)
  sa := h.sa.on k fun i hi => hG i (.inl hi)
  ls := h.ls
  la := h.la
  bk := h.bk
  book := book_kp h.book k (hG _ (.inr (.inr (.inl rfl)))) fun i hi => hG i (.inr (.inr (.inr (.inl hi))))
  row := kp_row h.row k fun i hi => hG i (.inr (.inr (.inr (.inr hi))))
  lok := h.lok
  nb := h.nb
  nk := h.nk
  nbv := h.nbv
  nv := h.nv
  d1 := h.d1
  d2 := h.d2
  d3 := h.d3
  lt := fun i hi => Nat.lt_of_lt_of_le (h.lt i hi) k.size
theorem SyL.below (h : SyL w I b y d) (hb : Below w.heap.size w w') : SyL w' I b y d := h.on (G := fun _ => False) (Kp.of hb) fun _ _ hf => hf
theorem SyL.turn (h : SyL w I b y d) (k : Kp (fun i => i = b) w w') (has : SyAt w' b y') (ok : y'.Ok) (ep : y'.p = y.p) (es : y'.s = y.s) (esw : y'.sw = y.sw) (ek : y'.k = y.k) (ev : y'.v = y.v) (ab : y'.aw < NN.Nm.big)
    (hI : ∀ i, I i → I' i) (hI' : ∀ i, I' i → I i ∨ (w.heap.size ≤ i ∧ i < w'.heap.size)) (q : Ps) (ha : Sup I' (fun w => SpIs w 0 y'.a q) w') (hla : q.ts.length ≤ 11 ∧ 0 ≤ q.x.h) : SyL w' I' b y' { d with qa := q } := by
  have no : ∀ i, i < w.heap.size → ¬ I i → ¬ I' i := fun i hi hn h2 => by
    rcases hI' i h2 with h3 | h3
    · exact hn h3
    · omega
  exact {
    has := has
    ok := ok
    tt := by rw [ep]; exact h.tt
    tok := h.tok
    gn := h.gn
    cn := h.cn
    gl := h.gl
    cl := h.cl
    mw := h.mw
    cb := h.cb
    sb := by rw [esw]; exact h.sb
    ab := ab
    gates := (h.gates.on k fun i hi e => h.nb (e ▸ hi)).wide hI
    checks := (h.checks.on k fun i hi e => h.nb (e ▸ hi)).wide hI
    ss := by rw [es]; exact (h.ss.on k fun i hi e => h.nb (e ▸ hi)).wide hI
    sa := ha
    ls := h.ls
    la := hla
    bk := by rw [ek]; exact h.bk
    book := book_kp h.book k (fun e => h.d1 e.symm) fun i hi => h.d2 i hi
    row := by rw [ev]; exact kp_row h.row k fun i hi => (h.d3 i hi).1
    lok := h.lok
    nb := no _ (Has.lt h.has) h.nb
    nk := no _ h.book.lt h.nk
    nbv := fun i hi => no i (h.book.ownLt hi).2 (h.nbv i hi)
    nv := by rw [ev]; exact fun i hi => no i (row_lt h.row hi).1 (h.nv i hi)
    d1 := h.d1
    d2 := h.d2
    d3 := by rw [ev]; exact h.d3
    lt := fun i hi => by
      rcases hI' i hi with h3 | h3
      · exact Nat.lt_of_lt_of_le (h.lt i h3) k.size
      · exact h3.2 }
theorem SyL.same (h : SyL w I b y d) (k : Kp (fun i => i = b) w w') (has : SyAt w' b y') (ok : y'.Ok) (ep : y'.p = y.p) (es : y'.s = y.s) (esw : y'.sw = y.sw) (ek : y'.k = y.k) (ev : y'.v = y.v) (ea : y'.a = y.a) (eaw : y'.aw = y.aw) : SyL w' I b y' d :=
  h.turn k has ok ep es esw ek ev (by rw [eaw]; exact h.ab) (fun _ hi => hi) (fun _ hi => .inl hi) d.qa (by rw [ea]; exact h.sa.on k fun i hi e => h.nb (e ▸ hi)) h.la
theorem SyL.book' (h : SyL w I b y d) {v' : Value} (k : PenStep w w' d.k d.bv v') {bs : List Bool} {m : Nat} (hB : BookAt w' d.k v' d.x bs m) : SyL w' I b y { d with bv := v', bs := bs, mm := m } ∧ Kp (fun i => i = d.k ∨ d.bv.ownBlock = some i) w w' := by
  have kp : Kp (fun i => i = d.k ∨ d.bv.ownBlock = some i) w w' := ⟨k.os, k.tape, k.output, k.size, fun i hi hn => k.block i hi (fun e => hn (.inl e)) (fun e => hn (.inr e))⟩
  have new : ∀ i, v'.ownBlock = some i → d.bv.ownBlock = some i ∨ w.heap.size ≤ i := k.lies
  refine ⟨{
    has := kp.has h.has (fun e => by
      rcases e with e | e
      · exact h.d1 e
      · exact h.d2 _ e rfl)
    ok := h.ok
    tt := h.tt
    tok := h.tok
    gn := h.gn
    cn := h.cn
    gl := h.gl
    cl := h.cl
    mw := h.mw
    cb := h.cb
    sb := h.sb
    ab := h.ab
    gates := h.gates.on kp ?_
    checks := h.checks.on kp ?_
    ss := h.ss.on kp ?_
    sa := h.sa.on kp ?_
    ls := h.ls
    la := h.la
    bk := h.bk
    book := hB
    row := kp_row h.row kp fun i hi e => by
      obtain ⟨h1, h2, h3⟩ := h.d3 i hi
      rcases e with e | e
      · exact h2 e
      · exact h3 e
    lok := h.lok
    nb := h.nb
    nk := h.nk
    nbv := fun i hi hI => by
      rcases new i hi with e | e
      · exact h.nbv i e hI
      · have := h.lt i hI; omega
    nv := h.nv
    d1 := h.d1
    d2 := fun i hi e => by
      rcases new i hi with e2 | e2
      · exact h.d2 i e2 e
      · have := Has.lt h.has; omega
    d3 := fun i hi => by
      obtain ⟨h1, h2, h3⟩ := h.d3 i hi
      refine ⟨h1, h2, fun e => ?_⟩
      rcases new i e with e2 | e2
      · exact h3 e2
      · have := (row_lt h.row hi).1; omega
    lt := fun i hi => Nat.lt_of_lt_of_le (h.lt i hi) kp.size }, kp⟩
  all_goals
    intro i hi e
    rcases e with e | e
    · exact h.nk (e ▸ hi)
    · exact h.nbv i e hi
theorem SyL.held (h : SyL w I b y d) (k : Kp (fun i => i = b ∨ y.v.ownBlock = some i) w w') {v' : Value} {L : List Hd} (has : SyAt w' b { y with v := v' }) (hv : ∃ g n c, v' = .slice g n c) (row : w'.ownsRow 0 30 68 v' L.length (headersC L)) (lok : ∀ h ∈ L, h.ok)
    (new : ∀ i, v'.ownBlock = some i → y.v.ownBlock = some i ∨ w.heap.size ≤ i) : SyL w' I b { y with v := v' } { d with L := L } := by
  refine {
    has := has
    ok := ⟨h.ok.p, h.ok.one, h.ok.s, h.ok.a, hv⟩
    tt := h.tt
    tok := h.tok
    gn := h.gn
    cn := h.cn
    gl := h.gl
    cl := h.cl
    mw := h.mw
    cb := h.cb
    sb := h.sb
    ab := h.ab
    gates := h.gates.on k ?_
    checks := h.checks.on k ?_
    ss := h.ss.on k ?_
    sa := h.sa.on k ?_
    ls := h.ls
    la := h.la
    bk := h.bk
    book := book_kp h.book k (fun e => by
      rcases e with e | e
      · exact h.d1 e.symm
      · exact (h.d3 _ e).2.1 rfl) fun i hi e => by
      rcases e with e | e
      · exact h.d2 i hi e
      · exact (h.d3 _ e).2.2 hi
    row := row
    lok := lok
    nb := h.nb
    nk := h.nk
    nbv := h.nbv
    nv := fun i hi hI => by
      rcases new i hi with e | e
      · exact h.nv i e hI
      · have := h.lt i hI; omega
    d1 := h.d1
    d2 := h.d2
    d3 := fun i hi => by
      rcases new i hi with e | e
      · exact h.d3 i e
      · have h1 := Has.lt h.has
        have h2 := h.book.lt
        refine ⟨by omega, ?_, fun e2 => ?_⟩
        · intro e3; simp only at e3; omega
        · have := (h.book.ownLt e2).2; omega
    lt := fun i hi => Nat.lt_of_lt_of_le (h.lt i hi) k.size }
  all_goals
    intro i hi e
    rcases e with e | e
    · exact h.nb (e ▸ hi)
    · exact h.nv i e hi
theorem SyL.again (h : SyL w I b y d) (k : Kp (fun i => i = b) w w') (has : SyAt w' b { y with ph := 2, a := y.s, aw := y.sw }) : SyL w' I b { y with ph := 2, a := y.s, aw := y.sw } { d with qa := d.qs } :=
  h.turn k has ⟨h.ok.p, h.ok.one, h.ok.s, h.ok.s, h.ok.v⟩ rfl rfl rfl rfl rfl h.sb (fun _ hi => hi) (fun _ hi => .inl hi) d.qs (h.ss.on k fun _ hi e => h.nb (e ▸ hi)) h.ls
end
structure SyW (w : World) (F : Nat → Prop) (b : Nat) (ph : Int) (m : Int) (z H : Nat) : Prop where
  ex : ∃ I y d, SyL w I b y d ∧ (∀ i, PyM I b d.k d.bv y.v i → F i) ∧ y.ph = ph ∧ y.m = m ∧ y.z = (z : Int) ∧ y.n = (d.bs.length : Int) ∧ y.n ≤ m ∧ d.L.length ≤ z ∧ d.qa.x.h ≤ (H : Int) ∧ d.qs.x.h ≤ (H : Int)
  lt : ∀ i, F i → i < w.heap.size
  mb : 0 ≤ m ∧ m ≤ 51539607553
  zb : 1 ≤ z ∧ z ≤ 64
  tab : Tab w
  tr : ∀ i, F i → 1 < i
  ts : ∀ i, F i → 0 < i
def SyP (w : World) (F : Nat → Prop) (b : Nat) (ph : Int) (m : Int) (z H : Nat) (w' : World) : Prop := ∃ F', SyW w' F' b ph m z H ∧ Kp F w w' ∧ ∀ i, F' i → F i ∨ w.heap.size ≤ i
section
variable {w w' w1 w2 : World} {F G : Nat → Prop} {b : Nat} {ph ph' m : Int} {z H H' : Nat}
theorem tab_kp (h : Tab w) (k : Kp G w w') (h1 : ¬ G 1) (h2 : ¬ G 0) : Tab w' := h.of (k.block _ h.lt.1 h1) (k.block _ h.lt.2 h2)
theorem SyW.on (h : SyW w F b ph m z H) (k : Kp G w w') (hG : ∀ i, F i → ¬ G i) (h1 : ¬ G 1) (h2 : ¬ G 0) : SyW w' F b ph m z H := by
  obtain ⟨I, y, d, S, hM, r⟩ := h.ex
  exact ⟨⟨I, y, d, S.on k fun i hi => hG i (hM i hi), hM, r⟩, fun i hi => Nat.lt_of_lt_of_le (h.lt i hi) k.size, h.mb, h.zb, tab_kp h.tab k h1 h2, h.tr, h.ts⟩
theorem SyW.below (h : SyW w F b ph m z H) (hb : Below w.heap.size w w') : SyW w' F b ph m z H := h.on (G := fun _ => False) (Kp.of hb) (fun _ _ hf => hf) (fun hf => hf) (fun hf => hf)
theorem SyW.more (h : SyW w F b ph m z H) (hh : H ≤ H') : SyW w F b ph m z H' := by
  obtain ⟨I, y, d, S, hM, h1, h2, h3, h4, h5, h6, h7, h8⟩ := h.ex
  exact ⟨⟨I, y, d, S, hM, h1, h2, h3, h4, h5, h6, by omega, by omega⟩, h.lt, h.mb, h.zb, h.tab, h.tr, h.ts⟩
theorem SyW.self (h : SyW w F b ph m z H) : SyP w F b ph m z H w := ⟨F, h, Kp.refl _ _, fun _ hi => .inl hi⟩
theorem SyW.read (h : SyW w F b ph m z H) (hb : Below w.heap.size w w') : SyP w F b ph m z H w' := ⟨F, h.below hb, Kp.of hb, fun _ hi => .inl hi⟩
theorem SyW.next (h : SyW w F b ph m z H) {I' : Nat → Prop} {y' : Sy} {d' : Sd} (S : SyL w' I' b y' d') (k : Kp F w w') (hM : ∀ i, PyM I' b d'.k d'.bv y'.v i → F i ∨ w.heap.size ≤ i)
    (r : y'.ph = ph' ∧ y'.m = m ∧ y'.z = (z : Int) ∧ y'.n = (d'.bs.length : Int) ∧ y'.n ≤ m ∧ d'.L.length ≤ z ∧ d'.qa.x.h ≤ (H' : Int) ∧ d'.qs.x.h ≤ (H' : Int)) : SyP w F b ph' m z H' w' :=
  ⟨Nxt F w w', ⟨⟨I', y', d', S, fun i hi => by
      rcases hM i hi with h1 | h1
      · exact .inl h1
      · exact .inr ⟨h1, S.mine_lt hi⟩, r⟩, fun i hi => by
      rcases hi with h1 | h1
      · exact Nat.lt_of_lt_of_le (h.lt i h1) k.size
      · exact h1.2, h.mb, h.zb, tab_kp h.tab k (fun hi => by have := h.tr _ hi; omega) (fun hi => by have := h.ts _ hi; omega), fun i hi => by
      rcases hi with h1 | h1
      · exact h.tr i h1
      · have := h.tab.lt.1; omega, fun i hi => by
      rcases hi with h1 | h1
      · exact h.ts i h1
      · have := h.tab.lt.2; omega⟩, k, fun i hi => by
      rcases hi with h1 | h1
      · exact .inl h1
      · exact .inr h1.1⟩
theorem SyP.then (h : SyP w F b ph m z H w1) (h2 : ∀ F1, SyW w1 F1 b ph m z H → Kp F w w1 → (∀ i, F1 i → F i ∨ w.heap.size ≤ i) → SyP w1 F1 b ph' m z H' w2) : SyP w F b ph' m z H' w2 := by
  obtain ⟨F1, W1, k1, n1⟩ := h
  obtain ⟨F2, W2, k2, n2⟩ := h2 F1 W1 k1 n1
  refine ⟨F2, W2, k1.trans k2 fun i hi hl => ?_, fun i hi => ?_⟩
  · rcases n1 i hi with h3 | h3
    · exact h3
    · omega
  · rcases n2 i hi with h3 | h3
    · exact n1 i h3
    · exact .inr (Nat.le_trans k1.size h3)
structure SyE (w : World) (F : Nat → Prop) (b : Nat) (m : Int) : Prop where
  ex : ∃ I y d, SyL w I b y d ∧ (∀ i, PyM I b d.k d.bv y.v i → F i) ∧ y.n ≤ m + 1
  lt : ∀ i, F i → i < w.heap.size
  tab : Tab w
  tr : ∀ i, F i → 1 < i
  ts : ∀ i, F i → 0 < i
def SyEP (w : World) (F : Nat → Prop) (b : Nat) (m : Int) (w' : World) : Prop := ∃ F', SyE w' F' b m ∧ Kp F w w' ∧ ∀ i, F' i → F i ∨ w.heap.size ≤ i
theorem SyW.err (h : SyW w F b ph m z H) : SyE w F b m := by
  obtain ⟨I, y, d, S, hM, e1, e2, e3, e4, e5, e6, e7, e8⟩ := h.ex
  exact ⟨⟨I, y, d, S, hM, by omega⟩, h.lt, h.tab, h.tr, h.ts⟩
theorem SyP.err (h : SyP w F b ph m z H w') : SyEP w F b m w' := by
  obtain ⟨F', W, k, n⟩ := h
  exact ⟨F', W.err, k, n⟩
theorem SyP.more (h : SyP w F b ph m z H w') (hh : H ≤ H') : SyP w F b ph m z H' w' := by
  obtain ⟨F', W, k, n⟩ := h
  exact ⟨F', W.more hh, k, n⟩
theorem SyP.on (h : SyP w F b ph m z H w1) (hb : Below w1.heap.size w1 w2) : SyP w F b ph m z H w2 := h.then fun _ W _ _ => W.read hb
theorem SyEP.on (h : SyEP w F b m w1) (hb : Below w1.heap.size w1 w2) : SyEP w F b m w2 := by
  obtain ⟨F1, ⟨⟨I, y, d, S, hM, e⟩, lt, tab, tr, ts⟩, k1, n1⟩ := h
  exact ⟨F1, ⟨⟨I, y, d, S.below hb, hM, e⟩, fun i hi => Nat.lt_of_lt_of_le (lt i hi) hb.size, tab.below hb, tr, ts⟩, k1.trans (Kp.of (F := fun _ => False) hb) (fun _ hi _ => hi.elim), n1⟩
theorem SyW.nextE (h : SyW w F b ph m z H) {I' : Nat → Prop} {y' : Sy} {d' : Sd} (S : SyL w' I' b y' d') (k : Kp F w w') (hM : ∀ i, PyM I' b d'.k d'.bv y'.v i → F i ∨ w.heap.size ≤ i) (e : y'.n ≤ m + 1) : SyEP w F b m w' :=
  ⟨Nxt F w w', ⟨⟨I', y', d', S, fun i hi => by
      rcases hM i hi with h1 | h1
      · exact .inl h1
      · exact .inr ⟨h1, S.mine_lt hi⟩, e⟩, fun i hi => by
      rcases hi with h1 | h1
      · exact Nat.lt_of_lt_of_le (h.lt i h1) k.size
      · exact h1.2, tab_kp h.tab k (fun hi => by have := h.tr _ hi; omega) (fun hi => by have := h.ts _ hi; omega), fun i hi => by
      rcases hi with h1 | h1
      · exact h.tr i h1
      · have := h.tab.lt.1; omega, fun i hi => by
      rcases hi with h1 | h1
      · exact h.ts i h1
      · have := h.tab.lt.2; omega⟩, k, fun i hi => by
      rcases hi with h1 | h1
      · exact .inl h1
      · exact .inr h1.1⟩
theorem SyP.chain (k1 : Kp F w w1) (n1 : ∀ i, G i → F i ∨ w.heap.size ≤ i) (h : SyP w1 G b ph m z H w2) : SyP w F b ph m z H w2 := by
  obtain ⟨F2, W2, k2, n2⟩ := h
  refine ⟨F2, W2, k1.trans k2 fun i hi hl => ?_, fun i hi => ?_⟩
  · rcases n1 i hi with h3 | h3
    · exact h3
    · omega
  · rcases n2 i hi with h3 | h3
    · exact n1 i h3
    · exact .inr (Nat.le_trans k1.size h3)
theorem SyEP.chain (k1 : Kp F w w1) (n1 : ∀ i, G i → F i ∨ w.heap.size ≤ i) (h : SyEP w1 G b m w2) : SyEP w F b m w2 := by
  obtain ⟨F2, W2, k2, n2⟩ := h
  refine ⟨F2, W2, k1.trans k2 fun i hi hl => ?_, fun i hi => ?_⟩
  · rcases n1 i hi with h3 | h3
    · exact h3
    · omega
  · rcases n2 i hi with h3 | h3
    · exact n1 i h3
    · exact .inr (Nat.le_trans k1.size h3)
end
end Go.Proofs.YthcebnfdapcllaaGreatDoor.An
namespace Go.Proofs.YthcebnfdapcllaaGreatDoor.An
open Go.RowKit Mem Sc NN.Rg2
open Pg (Pl pbit gv Ws)
set_option maxRecDepth 100000
section
variable {ρ : Operand → Value} {o : Oper} {w w' : World} {g off : Nat} {x y : Operand}
theorem ex_store_mid {T : TypeId} {cs : List Value} (ho : o.op = .store T x y) (hx : ρ x = .pointer (some ⟨g, off, none⟩)) (hy : ρ y = .agg cs.toArray) (ht : w.there g off cs.length) (hi : (Tryz.prog.info? T).map (·.size) = some cs.length) (h1 : ∀ v ∈ cs, v.oneCell' = true) : (execOp ρ o).run Tryz.prog w = .ok .skip (w.setCells g off cs) := by
  unfold execOp
  simp only [ho, hx, hy, Sem.run_bind]
  rw [run_storeAt_mid w g off T cs.toArray (by simpa using ht) (by simpa using hi) (all_oneCell_toArray h1)]
  rfl
theorem ex_load_pr {p : NN.Pr} (ho : o.op = .load 32 x) (hx : ρ x = .pointer (some ⟨g, off, none⟩)) (hg : w.rangeAt g off (NN.prC p)) (hp : p.ok) : (execOp ρ o).run Tryz.prog w = .ok (.value (.agg (NN.prA p))) w :=
  ex_mid 32 ho hx Tryz.underlying32 rfl (NN.prinfo.trans (by rw [prL hp])) hg
theorem ex_load_spt {s : Sp} (ho : o.op = .load 60 x) (hx : ρ x = .pointer (some ⟨g, off, none⟩)) (hg : w.rangeAt g off (spC s)) (hs : s.ok) : (execOp ρ o).run Tryz.prog w = .ok (.value (.agg (spA s))) w :=
  ex_mid 60 ho hx Tryz.underlying60 rfl (spinfo.trans (by rw [spC_length hs])) hg
theorem ex_load_stt {s : Sp} {c : Nat} (ho : o.op = .load 63 x) (hx : ρ x = .pointer (some ⟨g, off, none⟩)) (hg : w.rangeAt g off (stC s c)) (hs : s.ok) : (execOp ρ o).run Tryz.prog w = .ok (.value (.agg (stA s c))) w :=
  ex_mid 63 ho hx Tryz.underlying63 rfl (stinfo.trans (by rw [stL hs])) hg
theorem ex_load_hdr {h : Hd} (ho : o.op = .load 30 x) (hx : ρ x = .pointer (some ⟨g, off, none⟩)) (hg : w.rangeAt g off (hdC h)) (hh : h.ok) : (execOp ρ o).run Tryz.prog w = .ok (.value (.agg (hdA h))) w :=
  ex_mid 30 ho hx Tryz.underlying30 rfl (hdinfo.trans (by rw [hdC_length hh])) hg
theorem ex_load_nm {c : Nat} (ho : o.op = .load 26 x) (hx : ρ x = .pointer (some ⟨g, off, none⟩)) (hg : w.rangeAt g off (nmC c)) : (execOp ρ o).run Tryz.prog w = .ok (.value (.agg (NN.numC c))) w := by
  have := ex_mid (ρ := ρ) (o := o) (w := w) (P := Tryz.prog) 26 ho hx (cs := nmC c) Tryz.underlying26 rfl (by kernel_rfl) hg
  rwa [show (nmC c).toArray = NN.numC c from by unfold nmC; rw [Array.toArray_toList]] at this
theorem ex_load_bits {z : Int} (ho : o.op = .load 3 x) (hx : ρ x = .pointer (some ⟨g, off, none⟩)) (hc : w.cell? ⟨g, off, none⟩ = some (.int .i64 z)) : (execOp ρ o).run Tryz.prog w = .ok (.value (.int .i64 z)) w := ex_load_of ho hx (ld_i hc)
theorem ld_book {p : Addr} {q : Option Addr} (h : w.cell? p = some (.pointer q)) : (loadVar 71 p).run Tryz.prog w = .ok (.pointer q) w := by go_simp
theorem ld_heads {p : Addr} {a : Option Addr} {n c : Nat} (h : w.cell? p = some (.slice a n c)) : (loadVar 33 p).run Tryz.prog w = .ok (.slice a n c) w := by go_simp
theorem sv_heads {p : Addr} {a : Option Addr} {n c : Nat} {u : Value} (hf : w.frozen? p = false) (hc : w.cell? p = some u) : (storeVar 33 p (.slice a n c)).run Tryz.prog w = .ok () (w.setCell p (.slice a n c)) := by go_simp
theorem ex_neqR {a b : Int} {g : Bool} (ho : o.op = .binOp .neq 124 x y 124) (hx : ρ x = .int .i64 a) (hy : ρ y = .int .i64 b) (h : (a != b) = g) : (execOp ρ o).run Tryz.prog w = .ok (.value (.bool g)) w := by
  unfold execOp
  subst h
  simp only [ho, hx, hy]
  kernel_rfl
end
section
variable {w w' : World} {ops : Array Oper} {rest : List Oper} {o : Oper} {a : Act} {Q : Exit → Act → World → Prop} {v : Value}
theorem st_val (hgd : o.guard = none) (h : (execOp a.eval o).run Tryz.prog w = .ok (.value v) w') (hk : wpList Tryz.prog ops Q rest (a.put o.dst v) w') : wpList Tryz.prog ops Q (o :: rest) a w :=
  wpList_plain hgd fun _ hK => by
    unfold Oper.wp
    rw [h]
    exact hK _ _ hk
theorem st_skip (hgd : o.guard = none) (h : (execOp a.eval o).run Tryz.prog w = .ok .skip w') (hk : wpList Tryz.prog ops Q rest (a.put o.dst undef) w') : wpList Tryz.prog ops Q (o :: rest) a w :=
  wpList_plain hgd fun _ hK => by
    unfold Oper.wp
    rw [h]
    exact hK _ _ hk
end
theorem kp_cells {u w1 : World} (hb : Below u.heap.size u w1) (b o : Nat) (vs : List Value) : Kp (fun i => i = b) u (w1.setCells b o vs) := by
  obtain ⟨h1, h2, h3, h4⟩ := setCells_rest b vs o w1
  exact ⟨h1.trans hb.os, h2.trans hb.tape, h3.trans hb.output, by rw [h4]; exact hb.size, fun k hk hn => (setCells_other b k hn vs o w1).trans (hb.block k hk)⟩
theorem kp_cell {u w1 : World} (hb : Below u.heap.size u w1) (b o : Nat) (v : Value) : Kp (fun i => i = b) u (w1.setCell ⟨b, o, none⟩ v) := kp_cells hb b o [v]
theorem check_spot {w : World} {I : Nat → Prop} {b : Nat} {y : Sy} {d : Sd} (h : SyL w I b y d) (hT : Tab w) (x : Hd) (ho : x.ok) (now : Int) :
    Calls Tryz.prog 67 #[.agg (NN.prA y.p), .agg (spA y.a), .agg (hdA x), .int .i64 now] w fun e w' => e = .returned (.int .i64 (chk y.p d.gs d.cs d.qa x now)) ∧ Below w.heap.size w w' := by
  obtain ⟨e1, e2, e3, e4, e5, e6⟩ := h.sa.now
  exact check_at y.p h.ok.p d.t h.tt d.gs d.cs h.gn h.cn h.gl h.cl y.a d.qa e1 e2 e3 e4 (e2 ▸ h.ok.a) (by have := h.la.1; omega) x ho now w hT e6 h.gates.now h.checks.now
theorem behind_spot {w : World} {I : Nat → Prop} {b : Nat} {y : Sy} {d : Sd} (h : SyL w I b y d) (hT : Tab w) (hh : d.qa.x.h ≤ 1000000) (x : Hd) (ho : x.ok) :
    Calls Tryz.prog 18 #[.agg (NN.prA y.p), .agg (spA y.a), .agg (hdA x)] w fun r w' => ∃ s, r = .returned (.agg (spA s)) ∧ s.ok ∧ SpIs w' w.heap.size s (bh y.p d.qa x) ∧ Below w.heap.size w w' := by
  obtain ⟨e1, e2, e3, e4, ⟨ab, e5⟩, e6⟩ := h.sa.now
  have hl := h.la
  refine (behind_at y.p h.ok.p y.a h.ok.a d.qa.ts e3 e4 (by omega) (fun e => by rw [e5] at e; cases e) (by rw [e1]; exact hl.2) (by rw [e1]; exact hh) x ho w hT e6).mono ?_
  rintro r w2 ⟨b', c', rfl, h1, h2, h3⟩
  exact ⟨_, rfl, id_length x, ⟨by show bhx y.p y.a.x x = bhx y.p d.qa.x x; rw [e1], rfl, rfl, h1, ⟨b', rfl⟩, h2⟩, h3⟩
end Go.Proofs.YthcebnfdapcllaaGreatDoor.An
namespace Go.Proofs.YthcebnfdapcllaaGreatDoor.An
open Go.RowKit Mem Sc NN.Rg2
open Pg (Pl pbit gv Ws)
set_option maxRecDepth 100000
def GoR (u : World) (b : Nat) (q : Ps) (b1 b2 : Bool) (s : Sp) (w' : World) : Prop := ∃ w1, Below u.heap.size u w1 ∧ (b1 = true → s.ok ∧ SpIs w1 u.heap.size s q) ∧ w' = bif b2 then w1.setCells b 126 (spC s) else w1
theorem GoR.put {u w1 : World} {b : Nat} {q : Ps} {s : Sp} (h1 : Below u.heap.size u w1) (h2 : s.ok ∧ SpIs w1 u.heap.size s q) : GoR u b q true true s (w1.setCells b 126 (spC s)) := ⟨w1, h1, fun _ => h2, (cond_true _ _).symm⟩
def WkR (u : World) (b : Nat) (n1 n2 z : Nat) (b1 b2 : Bool) (g : Nat) (w' : World) : Prop := ∃ w1, Below u.heap.size u w1 ∧ (b1 = true → Has w1 g (NN.numRow [n1, n2]) 26) ∧ w' = bif b2 then w1.setCells b 164 (nmC z) else w1
theorem spis_cells {w : World} {lo b : Nat} {s : Sp} {q : Ps} (h : SpIs w lo s q) (hb : b < lo) (o : Nat) (vs : List Value) : SpIs (w.setCells b o vs) lo s q :=
  ⟨h.1, h.2.1, h.2.2.1, h.2.2.2.1, h.2.2.2.2.1, by rw [(setCells_rest b vs o w).2.2.2]; exact h.2.2.2.2.2.on (fun k h1 _ => setCells_other b k (by omega) vs o w)⟩
theorem bh_la (p : NN.Pr) (q : Ps) (x : Hd) (h : q.ts.length ≤ 11 ∧ 0 ≤ q.x.h) : (bh p q x).ts.length ≤ 11 ∧ 0 ≤ (bh p q x).x.h := by
  refine ⟨?_, ?_⟩
  · show (x.time :: q.ts.take 10).length ≤ 11
    rw [List.length_cons, List.length_take]
    omega
  · show 0 ≤ q.x.h + 1
    have := h.2
    omega
set_option maxHeartbeats 4000000 in
theorem goOn_w {w : World} {I : Nat → Prop} {b : Nat} {y : Sy} {d : Sd} (S : Hid (SyL w I b y d)) (hT : Hid (Tab w)) (hh : Hid (d.qa.x.h ≤ 1000000)) (x : Hd) (ho : x.ok) (now : Int) :
    Calls Tryz.prog 54 #[.pointer (some ⟨b, 0, none⟩), .int .i64 now, .agg (hdA x)] w fun r w' => (r = .returned (.bool false) ∧ Below w.heap.size w w') ∨ (r = .returned (.bool true) ∧ ∃ I' s c, SyL w' I' b { y with a := s, aw := c } { d with qa := bh y.p d.qa x } ∧ Kp (fun i => i = b) w w' ∧ ∀ i, I' i → I i ∨ w.heap.size ≤ i) := by
  obtain ⟨z, hz⟩ : ∃ z, chk y.p d.gs d.cs d.qa x now = z := ⟨_, rfl⟩
  obtain ⟨g, hg⟩ : ∃ g, (z != 0) = g := ⟨_, rfl⟩
  have HZ := Lib.hid hz
  have hz0 := hdA_size ho
  have bb : b < w.heap.size := Has.lt S.out.has
  clear hz
  go_enter Tryz.func54, Tryz.ntmps54
  go_upto_region 1 with fail
  generalize hw0 : World.alloc _ _ = v0
  have hB : Below w.heap.size w v0 := by rw [← hw0]; exact (Below.refl _ _).alloc (Nat.le_refl _) _
  have hX : HdAt v0 w.heap.size x := by rw [← hw0]; exact hd_new w x
  clear hw0
  obtain ⟨bx, hbx⟩ : ∃ bx, bx = w.heap.size := ⟨_, rfl⟩
  rw [← hbx] at hX ⊢
  have HB := Lib.hid hB
  have HX := Lib.hid hX
  have hbb : bx ≠ b := by omega
  have HBX := Lib.hid hbx
  have S0 := Lib.hid (S.out.below hB)
  have T0 := Lib.hid (hT.out.below hB)
  clear hB hX hbx
  refine wp_tab (fun _ _ w' => Below v0.heap.size v0 w') 99 99 [3, 8, 9, 11, 12] [.pointer (some ⟨b, 0, none⟩), .pointer (some ⟨b, 0, none⟩), .pointer (some ⟨b, 1, none⟩), .agg (NN.prA y.p), .pointer (some ⟨b, 0, none⟩), .pointer (some ⟨b, 0, none⟩), .pointer (some ⟨b, 126, none⟩), .pointer (some ⟨b, 126, none⟩), .agg (spA y.a), .agg (hdA x), .int .i64 now, .int .i64 z, .bool g] (Below.refl _ _).drew
    ⟨fun _ _ w' _ _ hC => .val (ex_load_pr rfl rfl (S0.out.below hC).has.rules S0.out.ok.p) hC, fun _ _ w' _ _ hC => .val (ex_load_spt rfl rfl ((S0.out.below hC).has.spot S0.out.ok) S0.out.ok.a) hC, fun _ _ w' _ _ hC => .val (ex_load_hdr rfl rfl (HX.out.on hC).range ho) hC, fun _ _ w' _ _ hC => .call ((check_spot (S0.out.below hC) (T0.out.below hC) x ho now).mono fun e w'' h => ⟨by rw [h.1, HZ.out]; rfl, hC.trans (h.2.mono hC.size)⟩), fun _ _ w' _ _ hC => .val (ex_neqR rfl rfl rfl hg) hC, trivial⟩ ?_
  intro v1 hB1
  simp only [finT, List.set_cons_zero, List.set_cons_succ, List.tail_cons, List.headD_cons]
  cases g
  · have S1 := Lib.hid (S0.out.below hB1)
    have X1 := Lib.hid (HX.out.on hB1)
    have T1 := Lib.hid (T0.out.below hB1)
    have B1 := Lib.hid (HB.out.trans (hB1.mono HB.out.size))
    clear hB1 hg HZ S0 T0 HX
    go_wp2_with fail
    refine wp_tabG (fun b1 b2 s w' => GoR v1 b (bh y.p d.qa x) b1 b2 s w') 11 15 [4, 9, 10, 11, 15] (fun s => [.pointer (some ⟨b, 0, none⟩), .pointer (some ⟨b, 0, none⟩), .pointer (some ⟨b, 0, none⟩), .pointer (some ⟨b, 1, none⟩), .agg (NN.prA y.p), .pointer (some ⟨b, 0, none⟩), .pointer (some ⟨b, 0, none⟩), .pointer (some ⟨b, 126, none⟩), .pointer (some ⟨b, 126, none⟩), .agg (spA y.a), .agg (hdA x), .agg (spA s), .pointer (some ⟨b, 0, none⟩), .pointer (some ⟨b, 126, none⟩), .pointer (some ⟨b, 126, none⟩), undef]) spZ ⟨_, (Below.refl _ _).drew, (fun h => by cases h), rfl⟩
      ⟨fun b1 b2 s w' _ f2 hC => ?_, fun b1 b2 s w' _ f2 hC => ?_, fun b1 b2 s w' _ f2 hC => ?_, fun b1 b2 s w' _ f2 hC => ?_, fun b1 b2 s w' f1 f2 hC => ?_, trivial⟩ ?_
    · obtain rfl := f2.no (by kernel_rfl)
      obtain ⟨w1, h1, h2, rfl⟩ := hC
      exact .val (ex_load_pr rfl rfl (S1.out.below h1).has.rules S1.out.ok.p) ⟨_, h1, h2, rfl⟩
    · obtain rfl := f2.no (by kernel_rfl)
      obtain ⟨w1, h1, h2, rfl⟩ := hC
      exact .val (ex_load_spt rfl rfl ((S1.out.below h1).has.spot S1.out.ok) S1.out.ok.a) ⟨_, h1, h2, rfl⟩
    · obtain rfl := f2.no (by kernel_rfl)
      obtain ⟨w1, h1, h2, rfl⟩ := hC
      exact .val (ex_load_hdr rfl rfl (X1.out.on h1).range ho) ⟨_, h1, h2, rfl⟩
    · obtain rfl := f2.no (by kernel_rfl)
      obtain ⟨w1, h1, h2, rfl⟩ := hC
      exact .callN [11] ((behind_spot (S1.out.below h1) (T1.out.below h1) hh.out x ho).mono fun e w'' ⟨s', h3, h4, h5, h6⟩ => ⟨s', rfl, h3, w'', h1.trans (h6.mono h1.size), fun _ => ⟨h4, h5.wide h1.size⟩, rfl⟩)
    · obtain rfl := f1.yes (by kernel_rfl)
      obtain rfl : b2 = false := by
        have := f2.no (by kernel_rfl)
        exact this
      obtain ⟨w1, h1, h2, rfl⟩ := hC
      exact .store rfl (ex_store_mid (cs := spC s) rfl rfl rfl ((S1.out.below h1).has.there S1.out.ok 126 _ (by rw [spC_length (h2 rfl).1]; omega)) (spinfo.trans (by rw [spC_length (h2 rfl).1])) (spC_one s)) (GoR.put h1 (h2 rfl))
    rintro s v2 ⟨w1, hB1, h2, rfl⟩
    obtain ⟨hs, hq⟩ := h2 rfl
    simp only [finT, List.set_cons_zero, List.set_cons_succ, List.tail_cons, List.headD_cons]
    have S2 : SyL (w1.setCells b 126 (spC s)) (fun i => I i ∨ (v1.heap.size ≤ i ∧ i < (w1.setCells b 126 (spC s)).heap.size)) b { y with a := s } { d with qa := bh y.p d.qa x } :=
      S1.out.turn (kp_cells hB1 b 126 _) ((S1.out.below hB1).has.setA S1.out.ok s hs) ⟨S1.out.ok.p, S1.out.ok.one, S1.out.ok.s, hs, S1.out.ok.v⟩ rfl rfl rfl rfl rfl S1.out.ab (fun _ hi => .inl hi) (fun _ hi => hi) _ (sup_spot (spis_cells hq (by have := Has.lt S1.out.has; exact this) 126 (spC s)) fun i h1 h2 => .inr ⟨h1, h2⟩) (bh_la y.p d.qa x S1.out.la)
    have K2 := kp_cells hB1 b 126 (spC s)
    have X2 : HdAt (w1.setCells b 126 (spC s)) bx x := K2.has X1.out hbb
    generalize w1.setCells b 126 (spC s) = v2 at *
    have HS2 := Lib.hid S2
    have HK2 := Lib.hid ((Kp.of (F := fun i => i = b) B1.out).trans K2 (fun _ hi _ => hi))
    have HX2 := Lib.hid X2
    have HN := Lib.hid (show w.heap.size ≤ v1.heap.size from B1.out.size)
    have hab := S2.ab
    obtain ⟨c, hc⟩ : ∃ c, NN.ofBits x.bits = c := ⟨_, rfl⟩
    have hcb : c < NN.Nm.big := by rw [← hc]; exact NN.ofBits_lt _
    have HC := Lib.hid hc
    obtain ⟨z2, hz2⟩ : ∃ z2, NN.Nm.cap (y.aw + c) = z2 := ⟨_, rfl⟩
    have hzb : z2 < NN.Nm.big := by rw [← hz2]; exact NN.Nm.cap_lt _
    have HZ2 := Lib.hid hz2
    clear hc hz2 S2 K2 X2 hB1 hs hq h2 S1 T1 X1 B1 hT S
    go_wp2_with fail
    refine wp_tabG (fun b1 b2 g w' => WkR v2 b y.aw c z2 b1 b2 g w') 9 14 [5, 7, 8, 9, 10, 14] (fun g => [.pointer (some ⟨b, 0, none⟩), .pointer (some ⟨b, 0, none⟩), .pointer (some ⟨b, 0, none⟩), .pointer (some ⟨b, 126, none⟩), .pointer (some ⟨b, 164, none⟩), .agg (NN.numC y.aw), .pointer (some ⟨bx, 66, none⟩), .int .i64 x.bits, .agg (NN.numC c), .slice (some ⟨g, 0, none⟩) 2 2, .agg (NN.numC z2), .pointer (some ⟨b, 0, none⟩), .pointer (some ⟨b, 126, none⟩), .pointer (some ⟨b, 164, none⟩), undef]) 0 ⟨_, (Below.refl _ _).drew, (fun h => by cases h), rfl⟩
      ⟨fun b1 b2 g w' _ f2 hC => ?_, fun b1 b2 g w' _ f2 hC => ?_, fun b1 b2 g w' _ f2 hC => ?_, fun b1 b2 g w' _ f2 hC => ?_, fun b1 b2 g w' f1 f2 hC => ?_, fun b1 b2 g w' f1 f2 hC => ?_, trivial⟩ ?_
    · obtain rfl := f2.no (by kernel_rfl)
      obtain ⟨w1, h1, h2, rfl⟩ := hC
      exact .val (ex_load_nm rfl rfl ((HS2.out.below h1).has.work HS2.out.ok)) ⟨_, h1, h2, rfl⟩
    · obtain rfl := f2.no (by kernel_rfl)
      obtain ⟨w1, h1, h2, rfl⟩ := hC
      exact .val (ex_load_bits rfl rfl ((HX2.out.on h1).bits ho)) ⟨_, h1, h2, rfl⟩
    · obtain rfl := f2.no (by kernel_rfl)
      obtain ⟨w1, h1, h2, rfl⟩ := hC
      exact .call ((NN.wbits x.bits _).mono fun e w'' h => ⟨by rw [h.1, HC.out]; rfl, w'', h1.trans (h.2.mono h1.size), fun h3 => below_has h.2 (h2 h3) (h2 h3).lt, rfl⟩)
    · obtain rfl := f2.no (by kernel_rfl)
      obtain ⟨w1, h1, h2, rfl⟩ := hC
      exact .new w'.heap.size [9] rfl (NN.ex_build2 rfl rfl rfl) ⟨_, h1.alloc h1.size _, fun _ => Has.new _ _, rfl⟩
    · obtain rfl := f1.yes (by kernel_rfl)
      obtain rfl := f2.no (by kernel_rfl)
      obtain ⟨w1, h1, h2, rfl⟩ := hC
      exact .call ((NN.wsum2 y.aw c hab hcb z2 HZ2.out g _ (h2 rfl)).mono fun e w'' h => ⟨h.1, w'', h1.trans (h.2.mono h1.size), fun h3 => below_has h.2 (h2 h3) (h2 h3).lt, rfl⟩)
    · obtain rfl := f1.yes (by kernel_rfl)
      obtain rfl : b2 = false := f2.no (by kernel_rfl)
      obtain ⟨w1, h1, h2, rfl⟩ := hC
      exact .store rfl (ex_store_mid (cs := nmC z2) rfl rfl (by unfold nmC; rw [Array.toArray_toList]; rfl) ((HS2.out.below h1).has.there HS2.out.ok 164 4 (by omega)) (by kernel_rfl) (nm_one z2)) ⟨_, h1, h2, rfl⟩
    rintro g v3 ⟨w1, hB1, -, rfl⟩
    simp only [finT, List.set_cons_zero, List.set_cons_succ, List.tail_cons, List.headD_cons]
    have K3 := kp_cells hB1 b 164 (nmC z2)
    have S3 : SyL (w1.setCells b 164 (nmC z2)) (fun i => I i ∨ (v1.heap.size ≤ i ∧ i < v2.heap.size)) b { y with a := s, aw := z2 } { d with qa := bh y.p d.qa x } :=
      HS2.out.turn K3 ((HS2.out.below hB1).has.setW HS2.out.ok z2) ⟨HS2.out.ok.p, HS2.out.ok.one, HS2.out.ok.s, HS2.out.ok.a, HS2.out.ok.v⟩ rfl rfl rfl rfl rfl hzb (fun _ hi => hi) (fun _ hi => .inl hi) _ (HS2.out.sa.on K3 fun i hi e => HS2.out.nb (e ▸ hi)) HS2.out.la
    generalize w1.setCells b 164 (nmC z2) = v3 at *
    have HS3 := Lib.hid S3
    have HK3 := Lib.hid (HK2.out.trans K3 (fun _ hi _ => hi))
    clear S3 K3 hB1 HS2 HX2 HK2
    go_wp2_with fail
    go_ret
    refine .inr ⟨rfl, _, s, z2, HS3.out, HK3.out, fun i hi => ?_⟩
    rcases hi with hi | hi
    · exact .inl hi
    · exact .inr (Nat.le_trans HN.out hi.1)
  · have B1 := Lib.hid (HB.out.trans (hB1.mono HB.out.size))
    clear hB1 hg HZ S0 T0 HX S hT
    go_wp2_with fail
    go_ret
    exact .inl ⟨rfl, B1.out⟩
end Go.Proofs.YthcebnfdapcllaaGreatDoor.An
namespace Go.Proofs.YthcebnfdapcllaaGreatDoor.An
open Go.RowKit Mem Sc NN.Rg2
set_option maxRecDepth 100000
section
variable {w : World} {g n c : Nat} {xs : List Value}
theorem row_open (h : w.ownsRow 0 30 68 (.slice (some ⟨g, 0, none⟩) n c) n xs) (hn : 0 < n) : ∃ cur, Has w g cur 30 ∧ n ≤ c ∧ c ≤ maxLen ∧ cur.size = c * 68 ∧ cur.toList.take (n * 68) = xs := by
  rcases h.2 with ⟨_, h0⟩ | ⟨g', c', cur, e, _, h2, h3, h4, h5, h6⟩
  · omega
  · cases e
    exact ⟨cur, h2, h3, h4, h5, h6⟩
theorem row_nil_or (w : World) {v : Value} {m : Nat} (h : w.ownsRow 0 30 68 v m xs) : (v = .slice none 0 0 ∧ m = 0) ∨ ∃ g c, v = .slice (some ⟨g, 0, none⟩) m c := by
  rcases h.2 with h | ⟨g', c', cur, e, _⟩
  · exact .inl h
  · exact .inr ⟨g', c', e⟩
theorem run_copy_down (h : w.ownsRow 0 30 68 (.slice (some ⟨g, 0, none⟩) n c) n xs) (hn : 0 < n) (hn2 : n ≤ 1000) (h1 : ∀ v ∈ xs, v.oneCell' = true) (ty : TypeId) (p : Option Addr) (hp : 1 < c → p = some ⟨g, 68, none⟩) (hp0 : p.isSome = true) (k : Nat) :
    ∃ w', (Builtin.copy_ #[33, 33] ty #[.slice (some ⟨g, 0, none⟩) n c, .slice p (n - 1) k]).run Tryz.prog w = .ok (.int .i64 ((n - 1 : Nat) : Int)) w' ∧ w'.ownsRow 0 30 68 (.slice (some ⟨g, 0, none⟩) (n - 1) c) (n - 1) (xs.drop 68) ∧ Kp (fun i => i = g) w w' := by
  obtain ⟨cur, hg, hc, hm, hs, ht⟩ := row_open h hn
  have hx := h.1
  have hlt := Has.lt hg
  have hcl : cur.toList.length = c * 68 := by rw [Array.length_toList, hs]
  have hds : (xs.drop 68).length = (n - 1) * 68 := by rw [List.length_drop, hx]; omega
  obtain ⟨a, rfl⟩ := Option.isSome_iff_exists.1 hp0
  obtain ⟨i, z, hi, hz, hsz, _, _⟩ := hd_info
  have hl := run_loadCells_list (P := Tryz.prog) w a (xs.drop 68) fun j v hv => by
    have hj : j < (n - 1) * 68 := by rw [← hds]; exact (List.getElem?_eq_some_iff.1 hv).1
    have e := hp (by omega)
    simp only [Option.some.injEq] at e
    subst e
    rw [Addr.add_mid, Has.cell hg, ← Array.getElem?_toList]
    rw [List.getElem?_drop, ← ht, List.getElem?_take_of_lt (by omega)] at hv
    exact hv
  have hst := run_storeCells_at Tryz.prog g 0 30 (xs.drop 68) 0 cur w hg (by rw [hds, hs]; omega) fun v hv => h1 v (List.mem_of_mem_drop hv)
  have hmin : Nat.min (n - 1) n = n - 1 := Nat.min_eq_left (by omega)
  rw [hds] at hl
  refine ⟨w.setRow g (cur.toList.take (0 + 0) ++ xs.drop 68 ++ cur.toList.drop (0 + 0 + (xs.drop 68).length)).toArray, ?_, ?_, ?_⟩
  · simp [Builtin.copy_, run_underlying Tryz.underlying33, Builtin.lenOf, Builtin.firstCells, sizeOf, typeInfo, hi, hsz, hmin, hl, hst, goInt]
  · refine ⟨hds, .inr ⟨g, c, _, rfl, Nat.zero_le _, setRow_heap w g cur _ 30 (0, 0) hg, by omega, hm, ?_, ?_⟩⟩
    · simp [hds, hs]
      omega
    · simp only [Nat.add_zero, Nat.zero_add, List.take_zero, List.nil_append]
      rw [List.take_append_of_le_length (by rw [hds]; omega), List.take_of_length_le (by rw [hds]; omega)]
  · exact ⟨rfl, rfl, rfl, by rw [setRow_size]; exact Nat.le_refl _, fun i _ hn => setRow_other w g i _ hn⟩
theorem run_clear_row {v : Value} {m : Nat} (h : w.ownsRow 0 30 68 v m xs) (ty : TypeId) :
    ∃ w', (Builtin.clear_ #[33] ty #[v]).run Tryz.prog w = .ok (.tuple #[]) w' ∧ Kp (fun i => v.ownBlock = some i) w w' := by
  rcases h.2 with ⟨rfl, rfl⟩ | ⟨g, c, cur, rfl, _, hg, hc, hm, hs, ht⟩
  · exact ⟨w, by simp [Builtin.clear_, run_underlying Tryz.underlying33], Kp.refl _ _⟩
  · cases m with
    | zero => exact ⟨w, by simp [Builtin.clear_, run_underlying Tryz.underlying33], Kp.refl _ _⟩
    | succ m =>
      have hv : ∀ w, (zeroValue 30).run Tryz.prog w = .ok (.agg (hdA hdZ)) w := fun w => by kernel_rfl
      have hzl : (Builtin.zeroCells (hdA hdZ) (m + 1)).size = (m + 1) * 68 := by
        simp [Builtin.zeroCells, hdA_size hdZ_ok]
      have hz1 : ∀ u ∈ (Builtin.zeroCells (hdA hdZ) (m + 1)).toList, u.oneCell' = true := fun u hu => by
        simp only [Builtin.zeroCells, Array.toList_map, List.mem_map] at hu
        obtain ⟨i, _, rfl⟩ := hu
        have h68 : i % (hdA hdZ).size < (hdA hdZ).size := Nat.mod_lt _ (by rw [hdA_size hdZ_ok]; omega)
        rw [getElem!_pos (hdA hdZ) _ h68]
        have := hdA_one hdZ
        rw [Array.all_eq_true_iff_forall_mem] at this
        exact this _ (Array.getElem_mem h68)
      have hst := run_storeCells_at Tryz.prog g 0 30 (Builtin.zeroCells (hdA hdZ) (m + 1)).toList 0 cur w hg (by rw [Array.length_toList, hzl, hs]; omega) hz1
      generalize (List.take (0 + 0) cur.toList ++ (Builtin.zeroCells (hdA hdZ) (m + 1)).toList ++ List.drop (0 + 0 + (Builtin.zeroCells (hdA hdZ) (m + 1)).toList.length) cur.toList).toArray = X at hst
      refine ⟨w.setRow g X, ?_, ⟨rfl, rfl, rfl, by rw [setRow_size]; exact Nat.le_refl _, fun i _ hn => setRow_other w g i X (fun e => hn (by rw [e]; rfl))⟩⟩
      simp [Builtin.clear_, run_underlying Tryz.underlying33, hv, Value.cells, hst]
end
theorem make_heads (w : World) (z : Nat) (hz : z ≤ 64) : ∃ w', (Instr.makeSlice 33 (.int .i64 0) (.int .i64 (z : Int))).run Tryz.prog w = .ok (.slice (some ⟨w.heap.size, 0, none⟩) 0 z) w' ∧ w'.ownsRow 0 30 68 (.slice (some ⟨w.heap.size, 0, none⟩) 0 z) 0 [] ∧ Below w.heap.size w w' := by
  obtain ⟨i, y, hi, hy, h1, h2, _⟩ := hd_info
  obtain ⟨w', e1, e2, e3⟩ := run_make_own (P := Tryz.prog) w 0 33 30 i y 68 Tryz.underlying33 hi hy h1 .i64 .i64 z (by rw [h2]; omega) (by unfold maxLen; omega) (Nat.zero_le _)
  exact ⟨w', e1, e2, gb_none_below e3⟩
theorem heads_from (g n c : Nat) (hn : 0 < n) : ∃ p, (∀ w' : World, (Instr.sliceAt 33 (.slice (some ⟨g, 0, none⟩) n c) (some (.int .i64 1)) none none).run Tryz.prog w' = .ok (.slice p (n - 1) (c - 1)) w') ∧ (1 < c → p = some ⟨g, 68, none⟩) ∧ p.isSome = true := by
  refine ⟨if c = 1 then some ⟨g, 0, none⟩ else some ⟨g, 68, none⟩, fun w' => ?_, fun h => if_neg (by omega), by split <;> rfl⟩
  have e := run_slice_l (P := Tryz.prog) w' 33 (some ⟨g, 0, none⟩) n c (by kernel_rfl) .i64 1 (by omega) (by omega)
  rw [run_sliceAt_slice w' 33 _ _ _ _ (by kernel_rfl)]
  refine Eq.trans e ?_
  rw [show Tryz.prog.elem 33 = 30 by kernel_rfl]
  simp [sliced, Tryz.sizeOf30, Addr.add_mid]
theorem heads_to (g n c k : Nat) (hk : k ≤ n) (hc : n ≤ c) (h0 : 0 < c) : ∀ w' : World, (Instr.sliceAt 33 (.slice (some ⟨g, 0, none⟩) n c) none (some (.int .i64 (k : Int))) none).run Tryz.prog w' = .ok (.slice (some ⟨g, 0, none⟩) k c) w' := fun w' => by
  rw [run_sliceAt_slice w' 33 _ _ _ _ (by kernel_rfl), run_slice_h w' 33 (some ⟨g, 0, none⟩) n c (by kernel_rfl) .i64 k (by omega) (by omega)]
  rw [show Tryz.prog.elem 33 = 30 by kernel_rfl]
  simp [sliced, Tryz.sizeOf30, show c ≠ 0 by omega, Addr.add_mid]
section
variable {ρ : Operand → Value} {o : Oper} {w w' : World} {x y : Operand}
theorem ex_slice_from {g n c : Nat} {p : Option Addr} {l : Operand} (ho : o.op = .slice 33 x (some l) none none) (hx : ρ x = .slice (some ⟨g, 0, none⟩) n c) (hl : ρ l = .int .i64 1) (h : (Instr.sliceAt 33 (.slice (some ⟨g, 0, none⟩) n c) (some (.int .i64 1)) none none).run Tryz.prog w = .ok (.slice p (n - 1) (c - 1)) w) : (execOp ρ o).run Tryz.prog w = .ok (.value (.slice p (n - 1) (c - 1))) w := by
  unfold execOp
  simp only [ho, hx, Option.map_some, Option.map_none, hl, Sem.run_bind, h, Result.andThen_ok]
  rfl
theorem ex_slice_to {g n c k : Nat} {l : Operand} (ho : o.op = .slice 33 x none (some l) none) (hx : ρ x = .slice (some ⟨g, 0, none⟩) n c) (hl : ρ l = .int .i64 (k : Int)) (h : (Instr.sliceAt 33 (.slice (some ⟨g, 0, none⟩) n c) none (some (.int .i64 (k : Int))) none).run Tryz.prog w = .ok (.slice (some ⟨g, 0, none⟩) k c) w) : (execOp ρ o).run Tryz.prog w = .ok (.value (.slice (some ⟨g, 0, none⟩) k c)) w := by
  unfold execOp
  simp only [ho, hx, Option.map_some, Option.map_none, hl, Sem.run_bind, h, Result.andThen_ok]
  rfl
theorem ex_copy_down {a b : Value} {u : Value} (ho : o.op = .call { callee := .builtin .copy, args := #[x, y], argTypes := #[33, 33] }) (hx : ρ x = a) (hy : ρ y = b) (h : (Builtin.copy_ #[33, 33] o.type #[a, b]).run Tryz.prog w = .ok u w') : (execOp ρ o).run Tryz.prog w = .ok (.value u) w' := by
  unfold execOp
  simp only [ho, resolve, invoke, builtin, Sem.run_bind, Sem.run_pure, Result.andThen_ok, List.map_toArray, List.map_cons, List.map_nil, hx, hy, h]
theorem ex_clear {a : Value} (ho : o.op = .call { callee := .builtin .clear, args := #[x], argTypes := #[33] }) (hx : ρ x = a) (h : (Builtin.clear_ #[33] o.type #[a]).run Tryz.prog w = .ok (.tuple #[]) w') : (execOp ρ o).run Tryz.prog w = .ok (.value (.tuple #[])) w' := by
  unfold execOp
  simp only [ho, resolve, invoke, builtin, Sem.run_bind, Sem.run_pure, Result.andThen_ok, List.map_toArray, List.map_cons, List.map_nil, hx, h]
theorem ex_make {z : Nat} {u : Value} {l c : Operand} (ho : o.op = .makeSlice 33 l c) (hl : ρ l = .int .i64 0) (hc : ρ c = .int .i64 (z : Int)) (h : (Instr.makeSlice 33 (.int .i64 0) (.int .i64 (z : Int))).run Tryz.prog w = .ok u w') : (execOp ρ o).run Tryz.prog w = .ok (.value u) w' := by
  unfold execOp
  simp only [ho, hl, hc, Sem.run_bind, h, Result.andThen_ok]
  rfl
theorem build_hd1 (h : Hd) (ho : h.ok) (w : World) : (Instr.buildSlice 33 1 #[(0, .agg (hdA h))]).run Tryz.prog w = .ok (.slice (some ⟨w.heap.size, 0, none⟩) 1 1) (w.alloc (.cells (hdA h) 30)) := by
  obtain ⟨i, z, hi, hz, h1, h2, h3⟩ := hd_info
  refine run_buildSlice w 33 30 1 _ (hdA h) i z Tryz.underlying33 hi hz (by rw [h1]; decide) (by rw [h1]; decide) ?_
  rw [h1]
  exact fill_one 68 _ (hdA h) (by simp) (hdA_size ho)
theorem ex_build_hd {h : Hd} (ho : o.op = .buildSlice 33 1 #[(0, x)]) (hx : ρ x = .agg (hdA h)) (hh : h.ok) : (execOp ρ o).run Tryz.prog w = .ok (.value (.slice (some ⟨w.heap.size, 0, none⟩) 1 1)) (w.alloc (.cells (hdA h) 30)) := by
  unfold execOp
  simp only [ho, Sem.run_bind]
  rw [show (#[(0, x)] : Array (Nat × Operand)).map (fun (i, x) => (i, ρ x)) = #[(0, .agg (hdA h))] by simp [hx], build_hd1 h hh w]
  rfl
theorem append_hds {v : Value} {n : Nat} {xs : List Value} (hown : w.ownsRow 0 30 68 v n xs) {u : Value} {m : Nat} {ys : List Value} (hu : w.ownsRow 0 30 68 u m ys) (h1 : ∀ z ∈ ys, z.oneCell' = true) (hn : n + m ≤ 4000) (ty : TypeId) :
    ∃ v' w', (Builtin.append_ #[33, 33] ty #[v, u]).run Tryz.prog w = .ok v' w' ∧ w'.ownsRow 0 30 68 v' (n + m) (xs ++ ys) ∧ w.grownBy w' v.ownBlock ∧ (v'.ownBlock = v.ownBlock ∨ v'.ownBlock = some w.heap.size) := by
  obtain ⟨i, z, hi, hz, e1, e2, e3⟩ := hd_info
  rcases hu.2 with ⟨rfl, rfl⟩ | ⟨g, c, cur, rfl, _, hg, hc, hm, hs, ht⟩
  · have hy : ys = [] := List.eq_nil_of_length_eq_zero (by simpa using hu.1)
    subst hy
    exact ⟨v, w, run_append_owned_none (P := Tryz.prog) (w := w) 0 33 ty 30 i 68 Tryz.underlying33 hi v n xs hown, by simpa using hown, ⟨rfl, rfl, rfl, Nat.le_refl _, fun _ _ _ => rfl⟩, .inl rfl⟩
  · obtain ⟨v', w', hr, g1, g2, _, g4⟩ := run_append_own_at (P := Tryz.prog) w 0 33 ty 30 i z 68 96 Tryz.underlying33 hi hz e1 e2 e3 (by decide) v n xs hown ⟨g, 0, none⟩ m c ys hu.1 (fun j q hj => by
      have hjl : j < m * 68 := by rw [← hu.1]; exact (List.getElem?_eq_some_iff.1 hj).1
      have hH : Has w g cur 30 := hg
      rw [Addr.add_lit, Nat.zero_add, hH.cell j, ← Array.getElem?_toList]
      rw [← ht, List.getElem?_take_of_lt hjl] at hj
      exact hj) h1 (by unfold maxLen; omega) (by omega) (Nat.zero_le _)
    exact ⟨v', w', hr, g1, g2, g4⟩
theorem ex_append_hds {a b : Value} {u : Value} (ho : o.op = .call { callee := .builtin .append, args := #[x, y], argTypes := #[33, 33] }) (hx : ρ x = a) (hy : ρ y = b) (h : (Builtin.append_ #[33, 33] o.type #[a, b]).run Tryz.prog w = .ok u w') : (execOp ρ o).run Tryz.prog w = .ok (.value u) w' := by
  unfold execOp
  simp only [ho, resolve, invoke, builtin, Sem.run_bind, Sem.run_pure, Result.andThen_ok, List.map_toArray, List.map_cons, List.map_nil, hx, hy, h]
theorem row_one {w : World} {g : Nat} {h : Hd} (ho : h.ok) (hg : Has w g (hdA h) 30) : w.ownsRow 0 30 68 (.slice (some ⟨g, 0, none⟩) 1 1) 1 (hdC h) :=
  ⟨by rw [hdC_length ho], .inr ⟨g, 1, hdA h, rfl, Nat.zero_le _, hg, Nat.le_refl _, by decide, hdA_size ho, by show ((hdC h).toArray.toList).take 68 = _; rw [← hdC_length ho]; simp⟩⟩
theorem heads_one (L : List Hd) : ∀ v ∈ headersC L, v.oneCell' = true := fun v hv => by
  obtain ⟨h, _, hm⟩ := List.mem_flatMap.1 hv
  exact hdC_one h v hm
theorem heads_snoc (L : List Hd) (h : Hd) : headersC (L ++ [h]) = headersC L ++ hdC h := by simp [headersC]
theorem heads_cons (L : List Hd) (h : Hd) : headersC (h :: L) = hdC h ++ headersC L := by simp [headersC]
theorem heads_app (L M : List Hd) : headersC (L ++ M) = headersC L ++ headersC M := by simp [headersC]
end
end Go.Proofs.YthcebnfdapcllaaGreatDoor.An
namespace Go.Proofs.YthcebnfdapcllaaGreatDoor.An
open Go.RowKit Mem Sc NN.Rg2
open Pg (Pl pbit gv Ws)
set_option maxRecDepth 100000
theorem goOn_at {w : World} {F : Nat → Prop} {b : Nat} {ph m : Int} {z H : Nat} (W : SyW w F b ph m z H) (hH : H < 1000000) (x : Hd) (ho : x.ok) (now : Int) :
    Calls Tryz.prog 54 #[.pointer (some ⟨b, 0, none⟩), .int .i64 now, .agg (hdA x)] w fun r w' => ∃ g, r = .returned (.bool g) ∧ SyP w F b ph m z (H + 1) w' := by
  obtain ⟨I, y, d, S, hM, e1, e2, e3, e4, e5, e6, e7, e8⟩ := W.ex
  refine (goOn_w (Lib.hid S) (Lib.hid W.tab) (Lib.hid (by omega)) x ho now).mono ?_
  rintro r w' (⟨rfl, hb⟩ | ⟨rfl, I', s, c, S', k, hI⟩)
  · exact ⟨false, rfl, (W.more (Nat.le_succ H)).read hb⟩
  · refine ⟨true, rfl, W.next S' (k.mono fun i hi _ => by subst hi; exact hM i (.inr (.inl rfl))) (fun i hi => ?_) ⟨e1, e2, e3, e4, e5, e6, ?_, by show d.qs.x.h ≤ _; omega⟩⟩
    · rcases hi with hi | hi | hi | hi | hi
      · rcases hI i hi with h | h
        · exact .inl (hM i (.inl h))
        · exact .inr h
      · exact .inl (hM i (.inr (.inl hi)))
      · exact .inl (hM i (.inr (.inr (.inl hi))))
      · exact .inl (hM i (.inr (.inr (.inr (.inl hi)))))
      · exact .inl (hM i (.inr (.inr (.inr (.inr hi)))))
    · show d.qa.x.h + 1 ≤ _
      omega
set_option maxHeartbeats 2000000 in
theorem enough_w {w : World} {I : Nat → Prop} {b : Nat} {y : Sy} {d : Sd} (S : Hid (SyL w I b y d)) :
    Calls Tryz.prog 56 #[.pointer (some ⟨b, 0, none⟩)] w fun r w' => (∃ g, r = .returned (.bool g)) ∧ Below w.heap.size w w' := by
  obtain ⟨g, hg⟩ : ∃ g, decide (y.aw < d.c) = g := ⟨_, rfl⟩
  have HG := Lib.hid hg
  clear hg
  go_enter Tryz.func56, Tryz.ntmps56
  go_upto_region 1 with fail
  refine wp_tab (fun _ _ w' => Below w.heap.size w w') 99 99 [4, 9, 10] [.pointer (some ⟨b, 0, none⟩), .pointer (some ⟨b, 0, none⟩), .pointer (some ⟨b, 126, none⟩), .pointer (some ⟨b, 164, none⟩), .agg (NN.numC y.aw), .pointer (some ⟨b, 0, none⟩), .pointer (some ⟨b, 0, none⟩), .pointer (some ⟨b, 1, none⟩), .pointer (some ⟨b, 8, none⟩), .agg (NN.numC d.c), .bool g, .bool (!g), .bool (!g)] (Below.refl _ _).drew
    ⟨fun _ _ w' _ _ hC => .val (ex_load_nm rfl rfl ((S.out.below hC).has.work S.out.ok)) hC, fun _ _ w' _ _ hC => .val (ex_load_nm rfl rfl ((S.out.below hC).has.mw d.t S.out.tt d.c S.out.mw)) hC, fun _ _ w' _ _ hC => .call ((NN.less_isW y.aw d.c S.out.ab S.out.cb g HG.out w').mono fun e w'' h => ⟨h.1, hC.trans (h.2.mono hC.size)⟩), trivial⟩ ?_
  intro v1 hB1
  simp only [finT, List.set_cons_zero, List.set_cons_succ, List.tail_cons, List.headD_cons]
  go_wp2_with fail
  go_ret
  exact ⟨⟨_, rfl⟩, hB1⟩
theorem enough_at {w : World} {F : Nat → Prop} {b : Nat} {ph m : Int} {z H : Nat} (W : SyW w F b ph m z H) :
    Calls Tryz.prog 56 #[.pointer (some ⟨b, 0, none⟩)] w fun r w' => (∃ g, r = .returned (.bool g)) ∧ Below w.heap.size w w' := by
  obtain ⟨I, y, d, S, _⟩ := W.ex
  exact enough_w (Lib.hid S)
set_option maxHeartbeats 4000000 in
theorem begin_w19 {w : World} {I : Nat → Prop} {b : Nat} {y : Sy} {d : Sd} (S : Hid (SyL w I b y d)) (z : Nat) (hz : Hid (y.z = (z : Int))) (hz2 : z ≤ 64) :
    Calls Tryz.prog 57 #[.pointer (some ⟨b, 0, none⟩)] w fun r w' => r = .returned (.tuple #[]) ∧ ∃ v, SyL w' I b { y with ph := 2, a := y.s, aw := y.sw, v := v } { d with qa := d.qs, L := [] } ∧ Kp (fun i => i = b ∨ y.v.ownBlock = some i) w w' ∧ ∀ i, v.ownBlock = some i → w.heap.size ≤ i := by
  have A1 := S.out.has.setPh 2
  have ok1 : ({ y with ph := 2 } : Sy).Ok := ⟨S.out.ok.p, S.out.ok.one, S.out.ok.s, S.out.ok.a, S.out.ok.v⟩
  have A2 := A1.setSt ok1 y.s S.out.ok.s y.sw
  have K1 : Kp (fun i => i = b) w ((w.setCell ⟨b, 0, none⟩ (.int .i64 2)).setCells b 126 (stC y.s y.sw)) := (kp_cell (Below.refl _ _) b 0 _).trans (kp_cells (Below.refl _ _) b 126 _) (fun _ hi _ => hi)
  have th := A1.there ok1 126 (stC y.s y.sw).length (by rw [stL S.out.ok.s]; omega)
  have c0 := S.out.has.ph
  have f0 := S.out.has.free 0
  have hst := S.out.has.start S.out.ok
  have hs := S.out.ok.s
  have h42 : (Tryz.prog.info? 63).map (·.size) = some (stC y.s y.sw).length := stinfo.trans (by rw [stL hs])
  have hone := stC_one y.s y.sw
  have S1 := Lib.hid (S.out.again K1 A2)
  have HK1 := Lib.hid K1
  clear A1 A2 K1 ok1
  go_enter Tryz.func57, Tryz.ntmps57
  go_upto_region 1 with (first
    | (with_reducible refine st_val rfl (ex_load_stt rfl rfl hst hs) ?_)
    | (with_reducible refine st_skip rfl (ex_store_mid (cs := stC y.s y.sw) rfl rfl rfl th h42 hone) ?_))
  generalize World.setCells _ _ _ _ = v1 at *
  obtain ⟨u2, e1, e2, e3⟩ := make_heads v1 z hz2
  have c1 : v1.cell? ⟨b, 171, none⟩ = some (.int .i64 (z : Int)) := hz.out ▸ S1.out.has.z S1.out.ok
  have S2 := S1.out.below e3
  have c2 := S2.has.v S2.ok
  have f2 := S2.has.free 172
  have hgb : v1.heap.size ≠ b := by have := Has.lt S1.out.has; omega
  have K2 := kp_cell e3 b 172 (Value.slice (some ⟨v1.heap.size, 0, none⟩) 0 z)
  have S3 := S1.out.held (K2.mono fun i hi _ => .inl hi) (v' := .slice (some ⟨v1.heap.size, 0, none⟩) 0 z) (L := []) (S2.has.setV S2.ok _) ⟨_, _, _, rfl⟩ (kp_row e2 (kp_cell (Below.refl _ _) b 172 _) (fun i hi => by cases hi; exact hgb)) (fun _ h => by cases h) (fun i hi => by cases hi; exact .inr (Nat.le_refl _))
  have HS3 := Lib.hid S3
  have HK3 := Lib.hid (HK1.out.trans K2 (fun _ hi _ => hi))
  have HN := Lib.hid (show w.heap.size ≤ v1.heap.size from HK1.out.size)
  clear S3 K2 e2 e3 S2 c0 f0 hst th h42 hone
  obtain ⟨g, hg⟩ : ∃ g, g = v1.heap.size := ⟨_, rfl⟩
  rw [← hg] at e1 HS3 HK3 HN
  clear hg hgb
  go_wp2_with (with_reducible refine st_val rfl (ex_make rfl rfl rfl e1) ?_)
  generalize World.setCell _ _ _ = v3 at *
  refine bodyPost_end (v := .tuple #[]) (by simp [results, Tryz.results57, go_sem]) rfl ⟨rfl, _, HS3.out, HK3.out.mono fun i hi _ => .inl hi, fun i hi => by cases hi; exact HN.out⟩
end Go.Proofs.YthcebnfdapcllaaGreatDoor.An
namespace Go.Proofs.YthcebnfdapcllaaGreatDoor.An
open Go.RowKit Mem Sc NN.Rg2
open Pg (Pl pbit gv Ws)
set_option maxRecDepth 100000
def HdDn (u : World) (b g n c : Nat) (xs : List Value) (b1 b2 : Bool) (w' : World) : Prop := ∃ w1, Kp (fun i => i = g) u w1 ∧ w1.ownsRow 0 30 68 (.slice (some ⟨g, 0, none⟩) (bif b1 then n - 1 else n) c) (bif b1 then n - 1 else n) (bif b1 then xs.drop 68 else xs) ∧ w' = bif b2 then w1.setCell ⟨b, 172, none⟩ (.slice (some ⟨g, 0, none⟩) (n - 1) c) else w1
def HdUp (u : World) (b : Nat) (v : Value) (n : Nat) (xs : List Value) (x : Hd) (fl : Nat → Bool) (g : Nat × Nat × Nat) (w' : World) : Prop := ∃ w1,
  (fl 7 = false → Below u.heap.size u w1 ∧ (fl 6 = true → Has w1 g.1 (hdA x) 30)) ∧
  (fl 7 = true → Kp (fun i => v.ownBlock = some i) u w1 ∧ w1.ownsRow 0 30 68 (.slice (some ⟨g.2.1, 0, none⟩) (n + 1) g.2.2) (n + 1) (xs ++ hdC x) ∧ (v.ownBlock = some g.2.1 ∨ u.heap.size ≤ g.2.1)) ∧
  w' = bif fl 10 then w1.setCell ⟨b, 172, none⟩ (.slice (some ⟨g.2.1, 0, none⟩) (n + 1) g.2.2) else w1
theorem row_one_own {w : World} {v : Value} {n : Nat} {xs : List Value} (h : w.ownsRow 0 30 68 v n xs) (hn : 0 < n) : ∃ g c, v = .slice (some ⟨g, 0, none⟩) n c := by
  rcases row_nil_or w h with ⟨_, h0⟩ | h
  · omega
  · exact h
theorem kp_keep0 {w w' : World} (hb : Below w.heap.size w w') : Kp (fun _ => False) w w' := Kp.of hb
theorem ff' {P : Prop} {b : Bool} (h : b = true) (h2 : b = false) : P := by rw [h] at h2; cases h2
set_option maxHeartbeats 8000000 in
theorem hold_w {w : World} {I : Nat → Prop} {b : Nat} {y : Sy} {d : Sd} (S : Hid (SyL w I b y d)) (x : Hd) (ho : x.ok) (z : Nat) (hz : Hid (y.z = (z : Int))) (hz1 : Hid (1 ≤ z ∧ z ≤ 64)) (hL : Hid (d.L.length ≤ z)) (u : Value) (O : List Hd) (hU : Hid (w.ownsRow 0 30 68 u O.length (headersC O))) (hO : Hid (∀ i, u.ownBlock = some i → ¬ PyM I b d.k d.bv y.v i)) (hl : Hid (O.length ≤ 3000)) :
    Calls Tryz.prog 59 #[.pointer (some ⟨b, 0, none⟩), .agg (hdA x), u] w fun r w' => ∃ u' v' L', r = .returned u' ∧ SyL w' I b { y with v := v' } { d with L := L' } ∧ L'.length ≤ z ∧ (∃ O' : List Hd, w'.ownsRow 0 30 68 u' O'.length (headersC O') ∧ O'.length ≤ O.length + 1) ∧ Kp (fun i => i = b ∨ y.v.ownBlock = some i ∨ u.ownBlock = some i) w w' ∧ (∀ i, v'.ownBlock = some i → y.v.ownBlock = some i ∨ w.heap.size ≤ i) ∧ (∀ i, u'.ownBlock = some i → ¬ PyM I b d.k d.bv v' i) ∧ (∀ i, u'.ownBlock = some i → u.ownBlock = some i ∨ w.heap.size ≤ i) := by
  obtain ⟨a, nn, c, hv⟩ := S.out.ok.v
  have hrow := S.out.row
  obtain ⟨n, hn⟩ : ∃ n, n = d.L.length := ⟨_, rfl⟩
  rw [← hn] at hrow
  obtain rfl : n = nn := by
    rcases row_nil_or w hrow with ⟨e, h0⟩ | ⟨_, _, e⟩
    · rw [hv] at e; cases e; exact h0
    · rw [hv] at e; cases e; rfl
  have hn64 : n ≤ 64 := by have := hL.out; have := hz1.out; omega
  obtain ⟨g, hg⟩ : ∃ g, ((n : Int) == (z : Int)) = g := ⟨_, rfl⟩
  have HV := Lib.hid hv
  have HN := Lib.hid hn
  have hz0 := hdA_size ho
  have bb : b < w.heap.size := Has.lt S.out.has
  clear hv hn hrow
  go_enter Tryz.func59, Tryz.ntmps59
  go_upto_region 1 with fail
  generalize hw0 : World.alloc _ _ = v0
  have hB : Below w.heap.size w v0 := by rw [← hw0]; exact (Below.refl _ _).alloc (Nat.le_refl _) _
  have hX : HdAt v0 w.heap.size x := by rw [← hw0]; exact hd_new w x
  clear hw0
  obtain ⟨bx, hbx⟩ : ∃ bx, bx = w.heap.size := ⟨_, rfl⟩
  rw [← hbx] at hX ⊢
  have HB := Lib.hid hB
  have HX := Lib.hid hX
  have HBX := Lib.hid hbx
  have S0 := Lib.hid (S.out.below hB)
  clear hB hX hbx
  refine wp_tab (fun _ _ w' => Below v0.heap.size v0 w') 99 99 [3, 8, 9] [.pointer (some ⟨b, 0, none⟩), .pointer (some ⟨b, 0, none⟩), .pointer (some ⟨b, 172, none⟩), .slice a n c, .int .i64 (n : Int), .pointer (some ⟨b, 0, none⟩), .pointer (some ⟨b, 0, none⟩), .pointer (some ⟨b, 171, none⟩), .int .i64 (z : Int), .bool g] (Below.refl _ _).drew
    ⟨fun _ _ w' _ _ hC => .val (ex_load_of rfl rfl (ld_heads (HV.out ▸ (S0.out.below hC).has.v S0.out.ok))) hC, fun _ _ w' _ _ hC => .val (ex_load_of rfl rfl (ld_i (hz.out ▸ (S0.out.below hC).has.z S0.out.ok))) hC, fun _ _ w' _ _ hC => .val (ex_eqi rfl rfl rfl hg) hC, trivial⟩ ?_
  intro v1 hB1
  simp only [finT, List.set_cons_zero, List.set_cons_succ, List.tail_cons, List.headD_cons]
  have S1 := Lib.hid (S0.out.below hB1)
  have X1 := Lib.hid (HX.out.on hB1)
  have B1 := Lib.hid (HB.out.trans (hB1.mono HB.out.size))
  have HU := Lib.hid (kp_row hU.out (kp_keep0 B1.out) (fun _ _ h => h))
  clear hB1 S0 HX
  cases g
  · have S1V := Lib.hid HV.out
    have S1R := Lib.hid (show v1.ownsRow 0 30 68 (.slice a n c) n (headersC d.L) by rw [← HV.out, HN.out]; exact S1.out.row)
    have HO := Lib.hid hO.out
    have hlt : n + 1 ≤ z := by
      have h1 : ¬ (n : Int) = (z : Int) := by simpa using hg
      have := hL.out
      rw [← HN.out] at this
      omega
    have HLT := Lib.hid hlt
    clear hg hlt
    go_wp2_with fail
    refine wp_tabF (HdUp v1 b (.slice a n c) n (headersC d.L) x) [6, 7, 10] [4, 5, 6, 7, 10] (fun g => [.pointer (some ⟨b, 0, none⟩), .pointer (some ⟨b, 0, none⟩), .pointer (some ⟨b, 0, none⟩), .pointer (some ⟨b, 172, none⟩), .slice a n c, .agg (hdA x), .slice (some ⟨g.1, 0, none⟩) 1 1, .slice (some ⟨g.2.1, 0, none⟩) (n + 1) g.2.2, .pointer (some ⟨b, 0, none⟩), .pointer (some ⟨b, 172, none⟩), undef]) (0, 0, 0) ⟨_, fun _ => ⟨(Below.refl _ _).drew, fun h => by cases h⟩, fun h => (by cases h), rfl⟩
      ⟨fun fl g w' f hC => ?_, fun fl g w' f hC => ?_, fun fl g w' f hC => ?_, fun fl g w' f hC => ?_, fun fl g w' f hC => ?_, trivial⟩ ?_
    · have h10 := f.no 10 (by kernel_rfl)
      have h7 := f.no 7 (by kernel_rfl)
      have hC' := hC
      obtain ⟨u1, q1, q2, e⟩ := hC
      rw [h10, cond_false] at e
      subst e
      exact .val (ex_load_of rfl rfl (ld_heads (S1V.out ▸ (S1.out.below (q1 h7).1).has.v S1.out.ok))) hC'
    · have h10 := f.no 10 (by kernel_rfl)
      have h7 := f.no 7 (by kernel_rfl)
      have hC' := hC
      obtain ⟨u1, q1, q2, e⟩ := hC
      rw [h10, cond_false] at e
      subst e
      exact .val (ex_load_hdr rfl rfl (X1.out.on (q1 h7).1).range ho) hC'
    · have h10 := f.no 10 (by kernel_rfl)
      have h7 := f.no 7 (by kernel_rfl)
      obtain ⟨u1, q1, q2, e⟩ := hC
      rw [h10, cond_false] at e
      subst e
      refine .new (w'.heap.size, g.2) [6] rfl (ex_build_hd rfl rfl ho) ⟨_, fun _ => ⟨(q1 h7).1.alloc (q1 h7).1.size _, fun _ => Has.new _ _⟩, fun h => ff h7 h, ?_⟩
      show _ = bif fl 10 then _ else _
      rw [h10]
      rfl
    · have h10 := f.no 10 (by kernel_rfl)
      have h7 := f.no 7 (by kernel_rfl)
      have h6 := f.yes 6 (by kernel_rfl)
      obtain ⟨u1, q1, q2, e⟩ := hC
      rw [h10, cond_false] at e
      subst e
      obtain ⟨qb, qh⟩ := q1 h7
      obtain ⟨v', w2, r1, r2, r3, r4⟩ := append_hds (w := w') (kp_row (S1R.out) (kp_keep0 qb) (fun _ _ h => h)) (row_one ho (qh h6)) (hdC_one x) (by omega) 33
      obtain ⟨g2, c2, rfl⟩ := row_one_own r2 (Nat.succ_pos _)
      refine .new (g.1, g2, c2) [7] rfl (ex_append_hds rfl rfl rfl r1) ⟨w2, fun h => (by cases h), fun _ => ⟨(Kp.of qb).trans (Kp.gb r3 (fun k hk => hk)) (fun _ hi _ => hi), r2, ?_⟩, ?_⟩
      · rcases r4 with r4 | r4
        · exact .inl (r4 ▸ rfl)
        · cases r4
          exact .inr qb.size
      · show _ = bif fl 10 then _ else _
        rw [h10]
        rfl
    · have h10 := f.no 10 (by kernel_rfl)
      have h7 := f.yes 7 (by kernel_rfl)
      obtain ⟨u1, q1, q2, e⟩ := hC
      rw [h10, cond_false] at e
      subst e
      have hA : SyAt w' b _ := (q2 h7).1.has S1.out.has (fun e => (S1.out.d3 b (S1V.out.symm ▸ e)).1 rfl)
      exact .store rfl (ex_store_of rfl rfl rfl (sv_heads (hA.free _) (hA.v S1.out.ok))) ⟨w', fun h => ff' h7 h, fun _ => q2 h7, rfl⟩
    rintro ⟨g1, g2, c2⟩ v5 ⟨u1, -, q2, rfl⟩
    obtain ⟨k5, row5, own5⟩ := q2 rfl
    dsimp only at k5 row5 own5
    clear q2
    simp only [finT, List.set_cons_zero, List.set_cons_succ, List.tail_cons, List.headD_cons]
    have hA5 : SyAt u1 b _ := k5.has S1.out.has (fun e => (S1.out.d3 b (S1V.out.symm ▸ e)).1 rfl)
    have hb5 : b < v1.heap.size := Has.lt S1.out.has
    have hgb5 : g2 ≠ b := by
      rcases own5 with h | h
      · exact (S1.out.d3 g2 (S1V.out.symm ▸ h)).1
      · omega
    have K5 : Kp (fun i => i = b ∨ _) v1 (u1.setCell ⟨b, 172, none⟩ (.slice (some ⟨g2, 0, none⟩) (n + 1) c2)) := (k5.mono fun i hi _ => .inr (S1V.out.symm ▸ hi)).trans (kp_cell (Below.refl _ _) b 172 _) (fun _ hi _ => .inl hi)
    have S5 := S1.out.held K5 (v' := .slice (some ⟨g2, 0, none⟩) (n + 1) c2) (L := d.L ++ [x]) (hA5.setV S1.out.ok _) ⟨_, _, _, rfl⟩ (by rw [heads_snoc, List.length_append, ← HN.out]; exact kp_row row5 (kp_cell (Below.refl _ _) b 172 _) (fun i hi => by cases hi; exact hgb5)) (fun h hh => by
        rcases List.mem_append.1 hh with h1 | h1
        · exact S1.out.lok h h1
        · rw [List.mem_singleton.1 h1]; exact ho) (fun i hi => by
        cases hi
        rcases own5 with h | h
        · exact .inl (S1V.out.symm ▸ h)
        · exact .inr h)
    have U5 := kp_row HU.out K5 (fun i hi e => by
      rcases e with rfl | e
      · exact HO.out i hi (.inr (.inl rfl))
      · exact HO.out i hi (.inr (.inr (.inr (.inr e)))))
    have N5 : ∀ i, _ → ¬ PyM I b d.k d.bv (.slice (some ⟨g2, 0, none⟩) (n + 1) c2) i := fun i hi e => by
      rcases e with e | e | e | e | e
      · exact HO.out i hi (.inl e)
      · exact HO.out i hi (.inr (.inl e))
      · exact HO.out i hi (.inr (.inr (.inl e)))
      · exact HO.out i hi (.inr (.inr (.inr (.inl e))))
      · obtain rfl : g2 = i := Option.some.inj e
        rcases own5 with h | h
        · exact HO.out _ hi (.inr (.inr (.inr (.inr (S1V.out.symm ▸ h)))))
        · have := (row_lt HU.out hi).1; omega
    have HS5 := Lib.hid S5
    have HK5 := Lib.hid K5
    have HU5 := Lib.hid U5
    have HN5 := Lib.hid N5
    have HO5 := Lib.hid own5
    clear S5 K5 U5 N5 hA5 row5 k5 own5
    generalize World.setCell u1 _ _ = v6 at *
    go_wp2_with fail
    go_ret
    exact ⟨u, _, _, rfl, HS5.out, by rw [List.length_append, ← HN.out]; exact HLT.out, ⟨O, HU5.out, Nat.le_succ _⟩, (Kp.of B1.out).trans HK5.out (fun i hi _ => by
      rcases hi with h | h
      · exact .inl h
      · exact .inr (.inl h)), fun i hi => by
      cases hi
      rcases HO5.out with h | h
      · exact .inl (HV.out.symm ▸ h)
      · exact .inr (Nat.le_trans B1.out.size h), HN5.out, fun _ h => .inl h⟩
  · obtain rfl : n = z := by
      have h1 : (n : Int) = (z : Int) := by simpa using hg
      omega
    have hn0 : 0 < n := hz1.out.1
    have hrow := HU.out
    have HRW := Lib.hid (show v1.ownsRow 0 30 68 (.slice a n c) n (headersC d.L) by rw [← HV.out, HN.out]; exact S1.out.row)
    obtain ⟨gk, c', e0⟩ := row_one_own HRW.out hn0
    cases e0
    obtain ⟨h0, Lt, hLt⟩ : ∃ h0 Lt, d.L = h0 :: Lt := by
      cases hq : d.L with
      | nil => have := HN.out; rw [hq] at this; simp at this; omega
      | cons h0 Lt => exact ⟨h0, Lt, rfl⟩
    have hh0 : h0.ok := S1.out.lok h0 (by rw [hLt]; exact List.mem_cons_self)
    have s0 := hdC_length hh0
    obtain ⟨cur, hcg, hnc, hcm, hcs, hct⟩ := row_open HRW.out hn0
    have r0 : v1.rangeAt gk 0 (hdC h0) := fun j q hj => by
      have hj2 : j < 68 := by rw [← s0]; exact (List.getElem?_eq_some_iff.1 hj).1
      rw [Nat.zero_add, Has.cell hcg j, ← Array.getElem?_toList, ← List.getElem?_take_of_lt (show j < n * 68 by omega), hct, hLt, heads_cons, List.getElem?_append_left (by omega)]
      exact hj
    have hgb : gk ≠ b := (S1.out.d3 gk (by rw [HV.out]; rfl)).1
    have c172 : v1.cell? ⟨b, 172, none⟩ = some (.slice (some ⟨gk, 0, none⟩) n c) := HV.out ▸ S1.out.has.v S1.out.ok
    have bA : Below v1.heap.size v1 (v1.alloc (.cells (hdA h0) 30)) := (Below.refl _ _).alloc (Nat.le_refl _) _
    obtain ⟨u', v2, r1, r2, r3, r4⟩ := append_hds (w := v1.alloc (.cells (hdA h0) 30)) (kp_row HU.out (kp_keep0 bA) (fun _ _ h => h)) (row_one hh0 (Has.new _ _)) (hdC_one h0) (by have := hl.out; omega) 33
    have K2 : Kp (fun i => u.ownBlock = some i) v1 v2 := (Kp.of bA).trans (Kp.gb r3 (fun k hk => hk)) (fun _ hi _ => hi)
    have hu4 : ∀ i, u'.ownBlock = some i → u.ownBlock = some i ∨ v1.heap.size ≤ i := fun i hi => by
      rcases r4 with r4 | r4
      · exact .inl (r4 ▸ hi)
      · rw [r4] at hi; cases hi
        exact .inr bA.size
    have S2 := Lib.hid (S1.out.on K2 fun i hi hu => hO.out i hu hi)
    have X2 := Lib.hid (show HdAt v2 bx x from K2.has X1.out (fun hu => by have := (row_lt hU.out hu).1; have := HBX.out; omega))
    have HO2 := Lib.hid (show ∀ i, u'.ownBlock = some i → ¬ PyM I b d.k d.bv y.v i from fun i hi hm => by
      rcases hu4 i hi with h | h
      · exact hO.out i h hm
      · have := S1.out.mine_lt hm; omega)
    have HU2 := Lib.hid (show v2.ownsRow 0 30 68 u' (O ++ [h0]).length (headersC (O ++ [h0])) by rw [heads_snoc, List.length_append]; exact r2)
    have HR2 := Lib.hid (kp_row HRW.out K2 fun i hi hu => hO.out i hu (.inr (.inr (.inr (.inr (by rw [HV.out]; exact hi))))))
    have HK2 := Lib.hid ((Kp.of B1.out).trans K2 (fun _ hi _ => hi))
    have HN2 := Lib.hid (Nat.le_trans B1.out.size K2.size)
    have HU4 := Lib.hid (show ∀ i, u'.ownBlock = some i → u.ownBlock = some i ∨ w.heap.size ≤ i from fun i hi => (hu4 i hi).imp id (Nat.le_trans B1.out.size))
    have HLt := Lib.hid hLt
    have HNC := Lib.hid hnc
    clear hrow hLt hcg hnc hcm hcs hct bA r2 r3 r4 K2 hu4 hg HRW HU hU hO S1 X1
    go_upto_region 3 with (first
      | (with_reducible refine hd_load_mid rfl _ rfl _ 0 rfl h0 r0 s0 ?_)
      | (with_reducible refine st_val rfl (ex_build_hd rfl rfl hh0) ?_)
      | (at_builtin; refine st_val rfl (ex_append_hds rfl rfl rfl r1) ?_))
    clear r0 r1 c172
    obtain ⟨p, hp, hp1, hp2⟩ := heads_from gk n c hn0
    have hto := heads_to gk n c (n - 1) (by omega) HNC.out (by have := HNC.out; omega)
    have hgy : y.v.ownBlock = some gk := by rw [HV.out]; rfl
    refine wp_tab (fun b1 b2 w' => HdDn v2 b gk n c (headersC d.L) b1 b2 w') 14 18 [4, 8, 12, 13, 14, 15, 18] [.pointer (some ⟨b, 0, none⟩), .pointer (some ⟨b, 0, none⟩), .pointer (some ⟨b, 0, none⟩), .pointer (some ⟨b, 172, none⟩), .slice (some ⟨gk, 0, none⟩) n c, .pointer (some ⟨b, 0, none⟩), .pointer (some ⟨b, 0, none⟩), .pointer (some ⟨b, 172, none⟩), .slice (some ⟨gk, 0, none⟩) n c, .pointer (some ⟨b, 0, none⟩), .pointer (some ⟨b, 0, none⟩), .pointer (some ⟨b, 172, none⟩), .slice (some ⟨gk, 0, none⟩) n c, .slice p (n - 1) (c - 1), .int .i64 ((n - 1 : Nat) : Int), .slice (some ⟨gk, 0, none⟩) (n - 1) c, .pointer (some ⟨b, 0, none⟩), .pointer (some ⟨b, 172, none⟩), undef] ⟨_, Kp.of (Below.refl _ _).drew, kp_row HR2.out (kp_keep0 (Below.refl _ _).drew) (fun _ _ h => h), rfl⟩
      ⟨fun b1 b2 w' f1 f2 hC => ?_, fun b1 b2 w' f1 f2 hC => ?_, fun b1 b2 w' f1 f2 hC => ?_, fun b1 b2 w' f1 f2 hC => .val (ex_slice_from rfl rfl rfl (hp _)) hC, fun b1 b2 w' f1 f2 hC => ?_, fun b1 b2 w' f1 f2 hC => .val (ex_slice_to rfl rfl rfl (hto _)) hC, fun b1 b2 w' f1 f2 hC => ?_, trivial⟩ ?_
    · obtain rfl := f2.no (by kernel_rfl)
      obtain ⟨u1, q1, q2, rfl⟩ := hC
      exact .val (ex_load_of rfl rfl (ld_heads (HV.out ▸ SyAt.v (show SyAt w' b y from q1.has S2.out.has (Ne.symm hgb)) S2.out.ok))) ⟨_, q1, q2, rfl⟩
    · obtain rfl := f2.no (by kernel_rfl)
      obtain ⟨u1, q1, q2, rfl⟩ := hC
      exact .val (ex_load_of rfl rfl (ld_heads (HV.out ▸ SyAt.v (show SyAt w' b y from q1.has S2.out.has (Ne.symm hgb)) S2.out.ok))) ⟨_, q1, q2, rfl⟩
    · obtain rfl := f2.no (by kernel_rfl)
      obtain ⟨u1, q1, q2, rfl⟩ := hC
      exact .val (ex_load_of rfl rfl (ld_heads (HV.out ▸ SyAt.v (show SyAt w' b y from q1.has S2.out.has (Ne.symm hgb)) S2.out.ok))) ⟨_, q1, q2, rfl⟩
    · obtain rfl : b1 = false := f1.no (by kernel_rfl)
      obtain rfl := f2.no (by kernel_rfl)
      obtain ⟨u1, q1, q2, rfl⟩ := hC
      obtain ⟨w2, e1, e2, e3⟩ := run_copy_down q2 hn0 (Nat.le_trans hn64 (by decide)) (heads_one d.L) 3 p hp1 hp2 (c - 1)
      exact .val (ex_copy_down rfl rfl rfl e1) ⟨w2, q1.trans e3 (fun _ hi _ => hi), e2, rfl⟩
    · obtain rfl := f1.yes (by kernel_rfl)
      obtain rfl : b2 = false := f2.no (by kernel_rfl)
      obtain ⟨u1, q1, q2, rfl⟩ := hC
      have hA : SyAt w' b y := q1.has S2.out.has (Ne.symm hgb)
      exact .store rfl (ex_store_of rfl rfl rfl (sv_heads (hA.free _) (hA.v S2.out.ok))) ⟨w', q1, q2, rfl⟩
    rintro v3 ⟨u1, k3, row3, rfl⟩
    replace row3 : u1.ownsRow 0 30 68 (.slice (some ⟨gk, 0, none⟩) (n - 1) c) (n - 1) ((headersC d.L).drop 68) := row3
    simp only [finT, List.set_cons_zero, List.set_cons_succ, List.tail_cons, List.headD_cons]
    obtain ⟨m, hm⟩ : ∃ m, n - 1 = m := ⟨_, rfl⟩
    have hmL : m = Lt.length := by have := HN.out; rw [HLt.out, List.length_cons] at this; omega
    have HMZ := Lib.hid (show m + 1 = n by omega)
    have hm64 : m ≤ 64 := by omega
    rw [hm] at row3 ⊢
    rw [show (headersC d.L).drop 68 = headersC Lt by rw [HLt.out, heads_cons]; exact List.drop_left' s0, hmL] at row3
    have K3 : Kp (fun i => i = b ∨ y.v.ownBlock = some i) v2 (u1.setCell ⟨b, 172, none⟩ (.slice (some ⟨gk, 0, none⟩) m c)) := (k3.mono fun i hi _ => .inr (hi ▸ hgy)).trans (kp_cell (Below.refl _ _) b 172 _) (fun _ hi _ => .inl hi)
    have hA3 : SyAt u1 b y := k3.has S2.out.has (Ne.symm hgb)
    rw [← hmL] at row3
    have S3 := S2.out.held K3 (v' := .slice (some ⟨gk, 0, none⟩) m c) (L := Lt) (hA3.setV S2.out.ok _) ⟨_, _, _, rfl⟩ (by rw [← hmL]; exact kp_row row3 (kp_cell (Below.refl _ _) b 172 _) (fun i hi => by cases hi; exact hgb)) (fun h hh => S2.out.lok h (by rw [HLt.out]; exact List.mem_cons_of_mem _ hh)) (fun i hi => .inl (by rw [hgy]; exact hi))
    have U3 := kp_row HU2.out K3 (fun i hi e => by
      rcases e with rfl | e
      · exact HO2.out i hi (.inr (.inl rfl))
      · exact HO2.out i hi (.inr (.inr (.inr (.inr e)))))
    have O3 : ∀ i, u'.ownBlock = some i → ¬ PyM I b d.k d.bv (.slice (some ⟨gk, 0, none⟩) m c) i := fun i hi e => HO2.out i hi (by
      rcases e with e | e | e | e | e
      · exact .inl e
      · exact .inr (.inl e)
      · exact .inr (.inr (.inl e))
      · exact .inr (.inr (.inr (.inl e)))
      · exact .inr (.inr (.inr (.inr (by rw [hgy]; exact e)))))
    have X3 : HdAt (u1.setCell ⟨b, 172, none⟩ (.slice (some ⟨gk, 0, none⟩) m c)) bx x := K3.has X2.out (fun e => by
      rcases e with e | e
      · have := HBX.out; omega
      · have h1 : bx < w.heap.size := (row_lt S.out.row e).1
        have := HBX.out; omega)
    have HS3 := Lib.hid S3
    have HX3 := Lib.hid X3
    have HO := Lib.hid O3
    have HU := Lib.hid U3
    have HK3 := Lib.hid K3
    have HN3 := Lib.hid K3.size
    have HML := Lib.hid hmL
    have HGY := Lib.hid hgy
    clear S3 X3 O3 U3 K3 row3 k3 hA3 hmL hm hgy hp hp1 hp2 hto S2 X2 HO2 HU2 HR2
    generalize World.setCell u1 _ _ = v3 at *
    have HS3R := Lib.hid (show v3.ownsRow 0 30 68 (.slice (some ⟨gk, 0, none⟩) m c) m (headersC Lt) by have := HS3.out.row; rw [HML.out]; rw [HML.out] at this; exact this)
    have HN := HML
    go_wp2_with fail
    refine wp_tabF (HdUp v3 b (.slice (some ⟨gk, 0, none⟩) m c) m (headersC Lt) x) [6, 7, 10] [4, 5, 6, 7, 10] (fun g => [.pointer (some ⟨b, 0, none⟩), .pointer (some ⟨b, 0, none⟩), .pointer (some ⟨b, 0, none⟩), .pointer (some ⟨b, 172, none⟩), .slice (some ⟨gk, 0, none⟩) m c, .agg (hdA x), .slice (some ⟨g.1, 0, none⟩) 1 1, .slice (some ⟨g.2.1, 0, none⟩) (m + 1) g.2.2, .pointer (some ⟨b, 0, none⟩), .pointer (some ⟨b, 172, none⟩), undef]) (0, 0, 0) ⟨_, fun _ => ⟨(Below.refl _ _).drew, fun h => by cases h⟩, fun h => (by cases h), rfl⟩
      ⟨fun fl g w' f hC => ?_, fun fl g w' f hC => ?_, fun fl g w' f hC => ?_, fun fl g w' f hC => ?_, fun fl g w' f hC => ?_, trivial⟩ ?_
    · have h10 := f.no 10 (by kernel_rfl)
      have h7 := f.no 7 (by kernel_rfl)
      have hC' := hC
      obtain ⟨u1, q1, q2, e⟩ := hC
      rw [h10, cond_false] at e
      subst e
      exact .val (ex_load_of rfl rfl (ld_heads ((HS3.out.below (q1 h7).1).has.v HS3.out.ok))) hC'
    · have h10 := f.no 10 (by kernel_rfl)
      have h7 := f.no 7 (by kernel_rfl)
      have hC' := hC
      obtain ⟨u1, q1, q2, e⟩ := hC
      rw [h10, cond_false] at e
      subst e
      exact .val (ex_load_hdr rfl rfl (HX3.out.on (q1 h7).1).range ho) hC'
    · have h10 := f.no 10 (by kernel_rfl)
      have h7 := f.no 7 (by kernel_rfl)
      obtain ⟨u1, q1, q2, e⟩ := hC
      rw [h10, cond_false] at e
      subst e
      refine .new (w'.heap.size, g.2) [6] rfl (ex_build_hd rfl rfl ho) ⟨_, fun _ => ⟨(q1 h7).1.alloc (q1 h7).1.size _, fun _ => Has.new _ _⟩, fun h => ff h7 h, ?_⟩
      show _ = bif fl 10 then _ else _
      rw [h10]
      rfl
    · have h10 := f.no 10 (by kernel_rfl)
      have h7 := f.no 7 (by kernel_rfl)
      have h6 := f.yes 6 (by kernel_rfl)
      obtain ⟨u1, q1, q2, e⟩ := hC
      rw [h10, cond_false] at e
      subst e
      obtain ⟨qb, qh⟩ := q1 h7
      obtain ⟨v', w2, r1, r2, r3, r4⟩ := append_hds (w := w') (kp_row (HS3R.out) (kp_keep0 qb) (fun _ _ h => h)) (row_one ho (qh h6)) (hdC_one x) (by omega) 33
      obtain ⟨g2, c2, rfl⟩ := row_one_own r2 (Nat.succ_pos _)
      refine .new (g.1, g2, c2) [7] rfl (ex_append_hds rfl rfl rfl r1) ⟨w2, fun h => (by cases h), fun _ => ⟨(Kp.of qb).trans (Kp.gb r3 (fun k hk => hk)) (fun _ hi _ => hi), r2, ?_⟩, ?_⟩
      · rcases r4 with r4 | r4
        · exact .inl (r4 ▸ rfl)
        · cases r4
          exact .inr qb.size
      · show _ = bif fl 10 then _ else _
        rw [h10]
        rfl
    · have h10 := f.no 10 (by kernel_rfl)
      have h7 := f.yes 7 (by kernel_rfl)
      obtain ⟨u1, q1, q2, e⟩ := hC
      rw [h10, cond_false] at e
      subst e
      have hA : SyAt w' b _ := (q2 h7).1.has HS3.out.has (fun e => (HS3.out.d3 b (e)).1 rfl)
      exact .store rfl (ex_store_of rfl rfl rfl (sv_heads (hA.free _) (hA.v HS3.out.ok))) ⟨w', fun h => ff' h7 h, fun _ => q2 h7, rfl⟩
    rintro ⟨g1, g2, c2⟩ v5 ⟨u1, -, q2, rfl⟩
    obtain ⟨k5, row5, own5⟩ := q2 rfl
    dsimp only at k5 row5 own5
    clear q2
    simp only [finT, List.set_cons_zero, List.set_cons_succ, List.tail_cons, List.headD_cons]
    have hA5 : SyAt u1 b _ := k5.has HS3.out.has (fun e => (HS3.out.d3 b (e)).1 rfl)
    have hb5 : b < v3.heap.size := Has.lt HS3.out.has
    have hgb5 : g2 ≠ b := by
      rcases own5 with h | h
      · exact (HS3.out.d3 g2 (h)).1
      · omega
    have K5 : Kp (fun i => i = b ∨ _) v3 (u1.setCell ⟨b, 172, none⟩ (.slice (some ⟨g2, 0, none⟩) (m + 1) c2)) := (k5.mono fun i hi _ => .inr (hi)).trans (kp_cell (Below.refl _ _) b 172 _) (fun _ hi _ => .inl hi)
    have S5 := HS3.out.held K5 (v' := .slice (some ⟨g2, 0, none⟩) (m + 1) c2) (L := Lt ++ [x]) (hA5.setV HS3.out.ok _) ⟨_, _, _, rfl⟩ (by rw [heads_snoc, List.length_append, ← HN.out]; exact kp_row row5 (kp_cell (Below.refl _ _) b 172 _) (fun i hi => by cases hi; exact hgb5)) (fun h hh => by
        rcases List.mem_append.1 hh with h1 | h1
        · exact HS3.out.lok h h1
        · rw [List.mem_singleton.1 h1]; exact ho) (fun i hi => by
        cases hi
        rcases own5 with h | h
        · exact .inl (h)
        · exact .inr h)
    have U5 := kp_row HU.out K5 (fun i hi e => by
      rcases e with rfl | e
      · exact HO.out i hi (.inr (.inl rfl))
      · exact HO.out i hi (.inr (.inr (.inr (.inr e)))))
    have N5 : ∀ i, _ → ¬ PyM I b d.k d.bv (.slice (some ⟨g2, 0, none⟩) (m + 1) c2) i := fun i hi e => by
      rcases e with e | e | e | e | e
      · exact HO.out i hi (.inl e)
      · exact HO.out i hi (.inr (.inl e))
      · exact HO.out i hi (.inr (.inr (.inl e)))
      · exact HO.out i hi (.inr (.inr (.inr (.inl e))))
      · obtain rfl : g2 = i := Option.some.inj e
        rcases own5 with h | h
        · exact HO.out _ hi (.inr (.inr (.inr (.inr (h)))))
        · have := (row_lt HU.out hi).1; omega
    have HS5 := Lib.hid S5
    have HK5 := Lib.hid K5
    have HU5 := Lib.hid U5
    have HN5 := Lib.hid N5
    have HO5 := Lib.hid own5
    clear S5 K5 U5 N5 hA5 row5 k5 own5
    generalize World.setCell u1 _ _ = v6 at *
    go_wp2_with fail
    go_ret
    refine ⟨u', rfl, _, _, HS5.out, by rw [List.length_append, ← HML.out]; exact Nat.le_of_eq HMZ.out, ⟨O ++ [h0], HU5.out, by rw [List.length_append]; exact Nat.le_refl _⟩, (HK2.out.mono fun i hi _ => .inr (.inr hi)).trans (HK3.out.trans HK5.out (fun i hi _ => by
      rcases hi with h | h
      · exact .inl h
      · exact .inr (by rw [HGY.out]; exact h))) (fun i hi _ => by
      rcases hi with h | h
      · exact .inl h
      · exact .inr (.inl h)), fun i hi => ?_, HN5.out, HU4.out⟩
    obtain rfl : g2 = i := Option.some.inj hi
    rcases HO5.out with h | h
    · exact .inl (by rw [HGY.out]; exact h)
    · exact .inr (Nat.le_trans HN2.out (Nat.le_trans HN3.out h))
end Go.Proofs.YthcebnfdapcllaaGreatDoor.An
namespace Go.Proofs.YthcebnfdapcllaaGreatDoor.An
open Go.RowKit Mem Sc NN.Rg2
open Pg (Pl pbit gv Ws)
set_option maxRecDepth 100000
def syN (ph n : Int) : Sy := ⟨ph, prZ0, spZ, 0, spZ, 0, none, n, 0, 0, .slice none 0 0⟩
def dead (ph n : Int) (q : List UInt8) : Sy := ⟨ph, prZ0, spZ, 0, ⟨⟨0, 0, 0, 0, 0⟩, q, none, 0, 0⟩, 0, none, n, 0, 0, .slice none 0 0⟩
theorem dead_ok {ph n : Int} {q : List UInt8} (hq : q.length = 32) : (dead ph n q).Ok := ⟨prZ0_ok, prZ0_one, spZ_ok, hq, ⟨_, _, _, rfl⟩⟩
theorem syZ_ok (ph n : Int) : (syN ph n).Ok := ⟨prZ0_ok, prZ0_one, spZ_ok, spZ_ok, ⟨_, _, _, rfl⟩⟩
theorem ex_build_end {ρ : Operand → Value} {o : Oper} {w : World} {x y : Operand} {ph n : Int} (ho : o.op = .build 73 #[(0, x), (5, y)]) (hx : ρ x = .int .i64 ph) (hy : ρ y = .int .i64 n) : (execOp ρ o).run Tryz.prog w = .ok (.value (.agg (syA (syN ph n)))) w := by
  unfold execOp
  simp only [ho, Sem.run_bind]
  rw [show (#[(0, x), (5, y)] : Array (Nat × Operand)).map (fun (i, x) => (i, ρ x)) = #[(0, .int .i64 ph), (5, .int .i64 n)] by simp [hx, hy], run_build w 73 _ _ (built_end ph n)]
  rfl
theorem ex_store_sy {ρ : Operand → Value} {o : Oper} {w : World} {x y : Operand} {b : Nat} {s s' : Sy} (ho : o.op = .store 73 x y) (hx : ρ x = .pointer (some ⟨b, 0, none⟩)) (hy : ρ y = .agg (syA s')) (h : SyAt w b s) (hs : s.Ok) (hs' : s'.Ok) : (execOp ρ o).run Tryz.prog w = .ok .skip (w.setRow b (syA s')) := by
  unfold execOp
  simp only [ho, hx, hy, Instr.storeAt, Instr.sureAddr, Sem.run_bind, Sem.run_pure, Result.andThen_ok, run_storeVar_row w b 73 73 (syA s) (syA s') (Has.out h) (syinfo.trans (by rw [syA_size hs'])) (by rw [syA_size hs, syA_size hs']) (syA_one hs')]
theorem name_range {w : World} {b : Nat} {l : List UInt8} {T : TypeId} (h : Has w b (bytesV l) T) : w.rangeAt b 0 (Lib.byteCells l) := fun j u hu => by
  rw [Nat.zero_add, Has.cell h j, ← Array.getElem?_toList, bytesV_list]
  exact hu
set_option maxHeartbeats 4000000 in
theorem end_w {w : World} {I : Nat → Prop} {b : Nat} {y : Sy} {d : Sd} (S : Hid (SyL w I b y d)) (ph : Int) (q : List UInt8) (hq : q.length = 32) :
    Calls Tryz.prog 23 #[.pointer (some ⟨b, 0, none⟩), .int .i64 ph, .agg (bytesV q)] w fun r w' => r = .returned (.tuple #[]) ∧ SyAt w' b (dead ph y.n q) ∧ Kp (fun i => i = b ∨ y.v.ownBlock = some i) w w' := by
  obtain ⟨a, n, c, hv⟩ := S.out.ok.v
  have hone := bytesV_one q
  have hqs := hv_size hq
  have bb : b < w.heap.size := Has.lt S.out.has
  have ok1 := syZ_ok ph y.n
  have HV := Lib.hid hv
  clear hv
  go_enter Tryz.func23, Tryz.ntmps23
  go_upto_region 1 with fail
  generalize hw0 : World.alloc _ _ = v0
  have hB : Below w.heap.size w v0 := by rw [← hw0]; exact (Below.refl _ _).alloc (Nat.le_refl _) _
  have hI : Has v0 w.heap.size (bytesV q) 28 := by rw [← hw0]; exact Has.new _ _
  clear hw0
  obtain ⟨bx, hbx⟩ : ∃ bx, bx = w.heap.size := ⟨_, rfl⟩
  rw [← hbx] at hI ⊢
  have S0 := S.out.below hB
  obtain ⟨v1, r1, K1⟩ := run_clear_row (HV.out ▸ S0.row) 0
  have hxv : ∀ i, (Value.slice a n c).ownBlock = some i → i < w.heap.size ∧ i ≠ b := fun i hi => ⟨(row_lt S.out.row (HV.out ▸ hi)).1, (S.out.d3 i (HV.out ▸ hi)).1⟩
  have c172 : v0.cell? ⟨b, 172, none⟩ = some (.slice a n c) := HV.out ▸ S0.has.v S0.ok
  have A1 : SyAt v1 b y := K1.has S0.has (fun h => (hxv b h).2 rfl)
  have I1 : Has v1 bx (bytesV q) 28 := K1.has hI (fun h => by have := (hxv bx h).1; omega)
  have c169 := A1.n S.out.ok
  have hok := S.out.ok
  have K01 : Kp (fun i => i = b ∨ y.v.ownBlock = some i) w v1 := (Kp.of hB).trans K1 (fun i hi _ => .inr (HV.out.symm ▸ hi))
  have A2 : SyAt (v1.setRow b (syA (syN ph y.n))) b (syN ph y.n) := Has.row A1 _
  have I2 : Has (v1.setRow b (syA (syN ph y.n))) bx (bytesV q) 28 := (setRow_other v1 b bx _ (by omega)).trans I1
  have R2 := name_range I2
  have th := A2.there ok1 131 32 (by omega)
  have A3 : SyAt ((v1.setRow b (syA (syN ph y.n))).setCells b 131 (Lib.byteCells q)) b (dead ph y.n q) := A2.setPrev ok1 q hq
  have K3 : Kp (fun i => i = b ∨ y.v.ownBlock = some i) w ((v1.setRow b (syA (syN ph y.n))).setCells b 131 (Lib.byteCells q)) := K01.trans ((show Kp (fun i => i = b) v1 (v1.setRow b (syA (syN ph y.n))) from ⟨rfl, rfl, rfl, by rw [setRow_size]; exact Nat.le_refl _, fun i _ hn => setRow_other v1 b i _ hn⟩).trans (kp_cells (Below.refl _ _) b 131 _) (fun _ hi _ => hi)) (fun i hi _ => .inl hi)
  have HA3 := Lib.hid A3
  have HK3 := Lib.hid K3
  clear A3 K3 K01 I1 I2 hI hB S0 K1 S hbx
  generalize hW3 : (v1.setRow b (syA (syN ph y.n))).setCells b 131 (Lib.byteCells q) = v3 at *
  go_upto_region 2 with (first
    | (with_reducible refine st_val rfl (ex_clear rfl rfl r1) ?_))
  clear c172 r1
  go_upto_region 3 with (first
    | (with_reducible refine st_val rfl (ex_build_end rfl rfl rfl) ?_)
    | (with_reducible refine st_skip rfl (ex_store_sy rfl rfl rfl A1 hok ok1) ?_))
  clear c169 A1
  go_wp2_with (first
    | (with_reducible refine st_val rfl (pex_load_hl rfl rfl R2 hq) ?_)
    | (with_reducible refine hl_store_mid rfl _ _ rfl _ _ q rfl rfl hq th ?_))
  refine bodyPost_end (v := .tuple #[]) (by simp [results, Tryz.results23, go_sem]) rfl ⟨rfl, HA3.out, HK3.out⟩
end Go.Proofs.YthcebnfdapcllaaGreatDoor.An
namespace Go.Proofs.YthcebnfdapcllaaGreatDoor.An
open Go.RowKit Mem Sc NN.Rg2
open Pg (Pl pbit gv Ws)
set_option maxRecDepth 100000
theorem begin_at19 {w : World} {F : Nat → Prop} {b : Nat} {ph m : Int} {z H : Nat} (W : SyW w F b ph m z H) :
    Calls Tryz.prog 57 #[.pointer (some ⟨b, 0, none⟩)] w fun r w' => r = .returned (.tuple #[]) ∧ SyP w F b 2 m z H w' := by
  obtain ⟨I, y, d, S, hM, e1, e2, e3, e4, e5, e6, e7, e8⟩ := W.ex
  refine (begin_w19 (Lib.hid S) z (Lib.hid e3) W.zb.2).mono ?_
  rintro r w' ⟨rfl, v, S', k, hv⟩
  refine ⟨rfl, W.next S' (k.mono fun i hi _ => ?_) (fun i hi => ?_) ⟨rfl, e2, e3, e4, e5, Nat.zero_le _, e8, e8⟩⟩
  · rcases hi with rfl | hi
    · exact hM _ (.inr (.inl rfl))
    · exact hM _ (.inr (.inr (.inr (.inr hi))))
  · rcases hi with hi | hi | hi | hi | hi
    · exact .inl (hM i (.inl hi))
    · exact .inl (hM i (.inr (.inl hi)))
    · exact .inl (hM i (.inr (.inr (.inl hi))))
    · exact .inl (hM i (.inr (.inr (.inr (.inl hi)))))
    · exact .inr (hv i hi)
theorem SyW.height {w : World} {F : Nat → Prop} {b : Nat} {ph m : Int} {z H : Nat} (W : SyW w F b ph m z H) : ∃ hh : Int, w.cell? ⟨b, 126, none⟩ = some (.int .i64 hh) ∧ 0 ≤ hh ∧ hh ≤ (H : Int) := by
  obtain ⟨I, y, d, S, hM, e1, e2, e3, e4, e5, e6, e7, e8⟩ := W.ex
  have h := S.sa.now.1
  exact ⟨_, S.has.height S.ok, by rw [h]; exact S.la.2, by rw [h]; exact e7⟩
theorem ex_gtri {ρ : Operand → Value} {o : Oper} {w : World} {x y : Operand} {a b : Int} {g : Bool} (ho : o.op = .binOp .gtr 3 x y 3) (hx : ρ x = .int .i64 a) (hy : ρ y = .int .i64 b) (h : decide (b < a) = g) : (execOp ρ o).run Tryz.prog w = .ok (.value (.bool g)) w := by
  unfold execOp
  subst h
  simp only [ho, hx, hy]
  kernel_rfl
theorem ex_build_nm {ρ : Operand → Value} {o : Oper} {w : World} {x : Operand} {l : List UInt8} (ho : o.op = .buildSlice 127 1 #[(0, x)]) (hx : ρ x = .agg (bytesV l)) (hl : l.length = 32) : (execOp ρ o).run Tryz.prog w = .ok (.value (.slice (some ⟨w.heap.size, 0, none⟩) 1 1)) (w.alloc (.cells (bytesV l) 28)) := by
  unfold execOp
  simp only [ho, Sem.run_bind]
  rw [show (#[(0, x)] : Array (Nat × Operand)).map (fun (i, x) => (i, ρ x)) = #[(0, .agg (bytesV l))] by simp [hx], build_name (bytesV l) (hv_size hl) w]
  rfl
def LkR (u : World) (b : Nat) (y : Sy) (d : Sd) (q nn : Int) (fl : Nat → Bool) (g : Nat) (w' : World) : Prop := ∃ w1,
  (fl 16 = false → Below u.heap.size u w1 ∧ (fl 15 = true → Has w1 g (bytesV y.a.prev) 28 ∧ u.heap.size ≤ g)) ∧
  (fl 16 = true → ∃ v' bs', BookAt w1 d.k v' d.x bs' d.mm ∧ PenStep u w1 d.k d.bv v' ∧ (bs'.length : Int) = (d.bs.length : Int) + q) ∧
  SyAt w1 b y ∧ w' = bif fl 20 then w1.setCell ⟨b, 169, none⟩ (.int .i64 nn) else w1
theorem name_at {w : World} {g : Nat} {l : List UInt8} {T : TypeId} (h : Has w g (bytesV l) T) (hl : l.length = 32) : NamesAt w (some ⟨g, 0, none⟩) [l] := fun _ => ⟨g, 0, rfl, h.lt, fun i hi => by
  obtain rfl : i = 0 := by simpa using hi
  exact ⟨hl, name_range h⟩⟩
theorem SyW.tab_low {w w1 w2 : World} {F : Nat → Prop} {b : Nat} {ph m : Int} {z H : Nat} (W : SyW w F b ph m z H) {I : Nat → Prop} {k : Nat} {bv v : Value} (hM : ∀ i, PyM I b k bv v i → F i) (hb : Below w.heap.size w w1) (h2 : Below k w1 w2) : Tab w2 :=
  (W.tab.below hb).of (h2.block _ (W.tr k (hM k (.inr (.inr (.inl rfl)))))) (h2.block _ (W.ts k (hM k (.inr (.inr (.inl rfl))))))
def LookQ (w : World) (F : Nat → Prop) (b : Nat) (m : Int) (z H n : Nat) (r : Ending) (w' : World) : Prop := ∃ e ph', r = .returned (.int .i64 e) ∧ ((e = 0 ∧ (ph' = 1 ∨ ph' = 2) ∧ SyP w F b ph' m z (H + n) w') ∨ (¬ e = 0 ∧ SyEP w F b m w')) ∧ (n = 0 → e = 0 ∧ ph' = 1)
set_option maxHeartbeats 16000000 in
theorem look_at {w : World} {F : Nat → Prop} {b : Nat} {m : Int} {z H : Nat} (W : Hid (SyW w F b 1 m z H)) (now : Int) (a : Option Addr) (ls : List Hd) (n c : Nat) (hn : n = ls.length) (hl : n ≤ 64) (hA : Hid (∀ w', Kp F w w' → HeadersAt w' a ls)) (hH : H + 64 ≤ 1000000) :
    Calls Tryz.prog 38 #[.pointer (some ⟨b, 0, none⟩), .int .i64 now, .slice a n c] w fun r w' => LookQ w F b m z H n r w' := by
  have HN := Lib.hid hn
  clear hn
  go_enter Tryz.func38, Tryz.ntmps38
  go_wp2_with fail
  go_loopw [12] (fun i wr => ∃ k : Nat, k ≤ n ∧ i = .int .i64 (k : Int) ∧ SyP w F b 1 m z (H + k) wr) (fun i _ => n - (intOf i).toNat)
  case atStart => exact ⟨0, Nat.zero_le _, rfl, W.out.self⟩
  case round =>
    obtain ⟨k, hk, rfl, hP⟩ := hrel
    by_cases hlt : k < n
    · obtain ⟨F1, W1, k1, n1⟩ := hP
      have hkl : k < ls.length := by rw [← HN.out]; exact hlt
      obtain ⟨ab, ao, rfl, habl, hc⟩ := (hA.out wr k1) (by omega)
      obtain ⟨ho, rx⟩ := hc k hkl
      obtain ⟨x, hx⟩ : ∃ x, x = ls[k] := ⟨_, rfl⟩
      rw [← hx] at ho rx
      have zx := hdC_length ho
      have za := hdA_size ho
      have hz0 := hdA_size hdZ_ok
      have hZ := hd_newz wr
      have f1 : (k : Int) < (n : Int) := by omega
      have HW1 := Lib.hid W1
      have HK1 := Lib.hid k1
      have HN1 := Lib.hid n1
      have OX := Lib.hid ho
      clear hx hc W1 k1 n1 ho
      go_upto_region 4 with (first
        | (with_reducible refine hd_load_mid rfl _ rfl ab (ao + k * 68) rfl x rx zx ?_)
        | (with_reducible refine hd_store rfl _ _ rfl _ _ x rfl rfl rfl za hZ hz0 ?_))
      have hX : HdAt ((wr.alloc (.cells Tryz.zeroCells30 30)).setRow wr.heap.size (hdA x)) wr.heap.size x := Has.row hZ _
      have hb2 : Below wr.heap.size wr ((wr.alloc (.cells Tryz.zeroCells30 30)).setRow wr.heap.size (hdA x)) := below_setRow ((Below.refl _ _).alloc (Nat.le_refl _) _) (Nat.le_refl _) _
      generalize World.setRow _ _ _ = v1 at *
      obtain ⟨bx, hbx⟩ : ∃ bx, bx = wr.heap.size := ⟨_, rfl⟩
      rw [← hbx] at hX ⊢
      clear hbx rx hZ
      have W2 := HW1.out.below hb2
      obtain ⟨hh, c126, hh0, hh1⟩ := W2.height
      have HW2 := Lib.hid W2
      have HK2 := Lib.hid (HK1.out.trans (Kp.of (F := fun _ => False) hb2) (fun _ hi _ => hi.elim))
      have G1 := Lib.hid hh0
      have G2 := Lib.hid hh1
      clear W2 hb2 HW1 HK1 hh0 hh1
      go_wp2_with (with_reducible refine hd_load rfl _ rfl _ rfl hX za ?_)
      refine (goOn_at HW2.out (by omega) x OX.out now).mono ?_
      rintro r v2 ⟨g, rfl, P2⟩
      have P3 := SyP.chain HK2.out HN1.out P2
      clear P2 HW2 HK2 HN1
      cases g
      · go_wp2_with fail
        go_ret
        exact ⟨8, 1, rfl, .inr ⟨by decide, P3.err⟩, fun h => by omega⟩
      · obtain ⟨F2, W2, k2, n2⟩ := P3
        obtain ⟨I, y, d, S, hM, e1, e2, e3, e4, e5, e6, e7, e8⟩ := W2.ex
        obtain ⟨q, hq⟩ : ∃ q : Int, ((gv d.x hh [y.a.prev]).length : Int) = q := ⟨_, rfl⟩
        have hq1 : 0 ≤ q ∧ q ≤ 1 := by
          have := Pg.gv_le d.x [y.a.prev] hh
          simp only [List.length_cons, List.length_nil] at this
          omega
        obtain ⟨nn, hnn⟩ : ∃ nn, y.n + q = nn := ⟨_, rfl⟩
        have hadd : IntKind.i64.wrap (y.n + q) = nn := by
          have h1 := W2.mb
          rw [IntKind.wrap_i64]
          omega
        have hprev : y.a.prev.length = 32 := S.ok.a
        have HS := Lib.hid S
        have HM := Lib.hid hM
        have HW2 := Lib.hid W2
        have HK2 := Lib.hid k2
        have HN2 := Lib.hid n2
        have HQ := Lib.hid hq
        have E := Lib.hid (show y.ph = 1 ∧ y.m = m ∧ y.z = (z : Int) ∧ y.n = (d.bs.length : Int) ∧ y.n ≤ m ∧ d.L.length ≤ z ∧ d.qa.x.h ≤ ((H + k + 1 : Nat) : Int) ∧ d.qs.x.h ≤ ((H + k + 1 : Nat) : Int) from ⟨e1, e2, e3, e4, e5, e6, e7, e8⟩)
        have HNN := Lib.hid hnn
        clear S hM W2 k2 n2 hq e1 e2 e3 e4 e5 e6 e7 e8 hnn
        go_wp2_with fail
        refine wp_tabF (LkR v2 b y d q nn) [15, 16, 20] [3, 7, 14, 15, 16, 17, 20] (fun g => [.pointer (some ⟨b, 0, none⟩), .pointer (some ⟨b, 0, none⟩), .pointer (some ⟨b, 169, none⟩), .int .i64 y.n, .pointer (some ⟨b, 0, none⟩), .pointer (some ⟨b, 0, none⟩), .pointer (some ⟨b, 168, none⟩), .pointer (some ⟨d.k, 0, none⟩), .int .i64 hh, .pointer (some ⟨b, 0, none⟩), .pointer (some ⟨b, 0, none⟩), .pointer (some ⟨b, 126, none⟩), .pointer (some ⟨b, 126, none⟩), .pointer (some ⟨b, 131, none⟩), .agg (bytesV y.a.prev), .slice (some ⟨g, 0, none⟩) 1 1, .int .i64 q, .int .i64 nn, .pointer (some ⟨b, 0, none⟩), .pointer (some ⟨b, 169, none⟩), undef]) 0 ⟨_, fun _ => ⟨(Below.refl _ _).drew, fun h => by cases h⟩, (fun h => by cases h), (HS.out.below (Below.refl _ _).drew).has, rfl⟩
          ⟨fun fl g w' f hC => ?_, fun fl g w' f hC => ?_, fun fl g w' f hC => ?_, fun fl g w' f hC => ?_, fun fl g w' f hC => ?_, fun fl g w' f hC => .val (ex_addi rfl rfl rfl hadd) hC, fun fl g w' f hC => ?_, trivial⟩ ?_
        · have h20 := f.no 20 (by kernel_rfl)
          have hC' := hC
          obtain ⟨u1, q1, q2, q3, e⟩ := hC
          rw [h20, cond_false] at e
          subst e
          exact .val (ex_load_of rfl rfl (ld_i (q3.n HS.out.ok))) hC'
        · have h20 := f.no 20 (by kernel_rfl)
          have hC' := hC
          obtain ⟨u1, q1, q2, q3, e⟩ := hC
          rw [h20, cond_false] at e
          subst e
          exact .val (ex_load_of rfl rfl (ld_book (HS.out.bk ▸ q3.k HS.out.ok))) hC'
        · have h20 := f.no 20 (by kernel_rfl)
          have hC' := hC
          obtain ⟨u1, q1, q2, q3, e⟩ := hC
          rw [h20, cond_false] at e
          subst e
          exact .val (pex_load_hl rfl rfl (q3.prev HS.out.ok) hprev) hC'
        · have h20 := f.no 20 (by kernel_rfl)
          have h16 := f.no 16 (by kernel_rfl)
          obtain ⟨u1, q1, q2, q3, e⟩ := hC
          rw [h20, cond_false] at e
          subst e
          refine .new w'.heap.size [15] rfl (ex_build_nm rfl rfl hprev) ⟨_, fun _ => ⟨(q1 h16).1.alloc (q1 h16).1.size _, fun _ => ⟨Has.new _ _, (q1 h16).1.size⟩⟩, fun h => ff h16 h, Has.alloc q3 _, ?_⟩
          show _ = bif fl 20 then _ else _
          rw [h20]
          rfl
        · have h20 := f.no 20 (by kernel_rfl)
          have h16 := f.no 16 (by kernel_rfl)
          have h15 := f.yes 15 (by kernel_rfl)
          obtain ⟨u1, q1, q2, q3, e⟩ := hC
          rw [h20, cond_false] at e
          subst e
          obtain ⟨qb, qg⟩ := q1 h16
          obtain ⟨qg, qz⟩ := qg h15
          have hB := HS.out.book.below qb
          have hkb : d.k < v2.heap.size := HS.out.book.lt
          refine .call ((give_at hB hh (some ⟨g, 0, none⟩) [y.a.prev] 1 1 rfl (by simpa using hprev) (name_at qg hprev) (fun _ p hp => by
            cases hp
            refine ⟨by show g ≠ d.k; omega, fun e => ?_⟩
            have := (HS.out.book.ownLt (k := g) e).2
            omega) (fun w'' hb => HW2.out.tab_low HM.out qb hb) (by have := G1.out; omega) (by have := G2.out; omega) (by omega) (by have := E.out.2.2.2.1; have := E.out.2.2.2.2.1; have := HW2.out.mb; omega)).mono fun e w'' h => ?_)
          obtain ⟨h1, v', h2, h3⟩ := h
          refine ⟨by rw [h1, HQ.out]; rfl, w'', fun h => (by cases h), fun _ => ⟨v', _, h2, PenStep.below qb h3, by rw [List.length_append, ← HQ.out]; push_cast; rfl⟩, h3.has q3 HS.out.d1 (fun e => HS.out.d2 b e rfl), ?_⟩
          show _ = bif fl 20 then _ else _
          rw [h20]
          rfl
        · have h20 := f.no 20 (by kernel_rfl)
          have h16 := f.yes 16 (by kernel_rfl)
          obtain ⟨u1, q1, q2, q3, e⟩ := hC
          rw [h20, cond_false] at e
          subst e
          exact .store rfl (ex_store_of rfl rfl rfl (sv_i (q3.free _) (q3.n HS.out.ok))) ⟨w', fun h => ff' h16 h, fun _ => q2 h16, q3, rfl⟩
        rintro g v3 ⟨u1, -, q2, q3, rfl⟩
        obtain ⟨v', bs', hB', hP', hlen⟩ := q2 rfl
        clear q2
        simp only [finT, List.set_cons_zero, List.set_cons_succ, List.tail_cons, List.headD_cons]
        obtain ⟨S', K'⟩ := HS.out.book' hP' hB'
        have K8 := kp_cell (Below.refl u1.heap.size u1) b 169 (.int .i64 nn)
        have S8 := S'.same K8 (q3.setN HS.out.ok nn) ⟨HS.out.ok.p, HS.out.ok.one, HS.out.ok.s, HS.out.ok.a, HS.out.ok.v⟩ rfl rfl rfl rfl rfl rfl rfl
        have KF : Kp F2 v2 (u1.setCell ⟨b, 169, none⟩ (.int .i64 nn)) := (K'.mono fun i hi _ => by
          rcases hi with rfl | hi
          · exact HM.out _ (.inr (.inr (.inl rfl)))
          · exact HM.out _ (.inr (.inr (.inr (.inl hi))))).trans K8 (fun i hi _ => by subst hi; exact HM.out _ (.inr (.inl rfl)))
        have M8 : ∀ i, PyM I b d.k v' y.v i → F2 i ∨ v2.heap.size ≤ i := fun i hi => by
          rcases hi with hi | hi | hi | hi | hi
          · exact .inl (HM.out i (.inl hi))
          · exact .inl (HM.out i (.inr (.inl hi)))
          · exact .inl (HM.out i (.inr (.inr (.inl hi))))
          · rcases hP'.lies i hi with h | h
            · exact .inl (HM.out i (.inr (.inr (.inr (.inl h)))))
            · exact .inr h
          · exact .inl (HM.out i (.inr (.inr (.inr (.inr hi)))))
        have HS8 := Lib.hid S8
        have HKF := Lib.hid KF
        have HM8 := Lib.hid M8
        have HLN := Lib.hid (show nn = (bs'.length : Int) by rw [hlen, ← HNN.out, E.out.2.2.2.1])
        clear S' K' K8 S8 KF M8 q3 hP' hB' hlen
        generalize World.setCell u1 _ _ = v3 at *
        obtain ⟨g8, hg8⟩ : ∃ g8, decide (m < nn) = g8 := ⟨_, rfl⟩
        have hm8 := E.out.2.1
        go_wp2_with fail
        refine wp_tab (fun _ _ w' => Below v3.heap.size v3 w') 99 99 [3, 7, 8] [.pointer (some ⟨b, 0, none⟩), .pointer (some ⟨b, 0, none⟩), .pointer (some ⟨b, 169, none⟩), .int .i64 nn, .pointer (some ⟨b, 0, none⟩), .pointer (some ⟨b, 0, none⟩), .pointer (some ⟨b, 170, none⟩), .int .i64 m, .bool g8] (Below.refl _ _).drew
          ⟨fun _ _ w' _ _ hC => .val (ex_load_of rfl rfl (ld_i ((HS8.out.below hC).has.n HS8.out.ok))) hC, fun _ _ w' _ _ hC => .val (ex_load_of rfl rfl (ld_i (hm8 ▸ (HS8.out.below hC).has.m HS8.out.ok))) hC, fun _ _ w' _ _ hC => .val (ex_gtri rfl rfl rfl hg8) hC, trivial⟩ ?_
        intro v4 hB4
        simp only [finT, List.set_cons_zero, List.set_cons_succ, List.tail_cons, List.headD_cons]
        cases g8
        · have hle : nn ≤ m := by simpa using hg8
          have PW : SyP v2 F2 b 1 m z (H + k + 1) v3 := HW2.out.next HS8.out HKF.out HM8.out ⟨E.out.1, E.out.2.1, E.out.2.2.1, HLN.out, hle, E.out.2.2.2.2.2.1, E.out.2.2.2.2.2.2.1, E.out.2.2.2.2.2.2.2⟩
          obtain ⟨F4, W4, k4, n4⟩ := (SyP.chain HK2.out HN2.out PW).on hB4
          have HW4 := Lib.hid W4
          have HK4 := Lib.hid k4
          have HN4 := Lib.hid n4
          clear W4 k4 n4 PW hB4 hle hg8 HS8 HS HKF HM8 HM HW2 HK2 HN2 HLN HNN HQ hm8 hadd
          go_wp2_with fail
          refine (enough_at HW4.out).mono ?_
          rintro r v5 ⟨⟨g, rfl⟩, hb5⟩
          have W5 := HW4.out.below hb5
          have HW5 := Lib.hid W5
          have HK5 := Lib.hid (HK4.out.trans (Kp.of (F := fun _ => False) hb5) (fun _ hi _ => hi.elim))
          clear W5 hb5 HW4 HK4
          cases g
          · go_wp2_with fail
            go_roundw
            case rel => exact ⟨k + 1, by omega, by go_num, F4, HW5.out, HK5.out, HN4.out⟩
            case measure => simp [intOf]; omega
          · go_wp2_with fail
            refine (begin_at19 HW5.out).mono ?_
            rintro r v6 ⟨rfl, P6⟩
            have P7 := Lib.hid ((SyP.chain HK5.out HN4.out P6).more (show H + k + 1 ≤ H + n by omega))
            clear P6 HW5 HK5 HN4
            go_wp2_with fail
            go_ret
            exact ⟨0, 2, rfl, .inl ⟨rfl, .inr rfl, P7.out⟩, fun h => by omega⟩
        · have PE : SyEP v2 F2 b m v3 := HW2.out.nextE HS8.out HKF.out HM8.out (by
            have := HNN.out
            have := E.out.2.2.2.2.1
            show nn ≤ m + 1
            omega)
          have P8 := Lib.hid ((SyEP.chain HK2.out HN2.out PE).on hB4)
          clear PE hB4 HS8 HS HKF HM8 HM HW2 HK2 HN2 HLN HNN HQ hm8 hadd hg8
          go_wp2_with fail
          go_ret
          exact ⟨3, 1, rfl, .inr ⟨by decide, P8.out⟩, fun h => by omega⟩
    · obtain rfl : k = n := by omega
      have f1 : ¬ (k : Int) < (k : Int) := by omega
      have HP := Lib.hid hP
      clear hP
      go_wp2_with fail
      go_ret
      exact ⟨0, 1, rfl, .inl ⟨rfl, .inl rfl, HP.out⟩, fun _ => ⟨rfl, rfl⟩⟩
end Go.Proofs.YthcebnfdapcllaaGreatDoor.An
namespace Go.Proofs.YthcebnfdapcllaaGreatDoor.An
open Go.RowKit Mem Sc NN.Rg2
open Pg (Pl pbit gv Ws)
set_option maxRecDepth 100000
def OutAt (w0 w : World) (F : Nat → Prop) (u : Value) (O : List Hd) : Prop := w.ownsRow 0 30 68 u O.length (headersC O) ∧ ∀ i, u.ownBlock = some i → w0.heap.size ≤ i ∧ ¬ F i
section
variable {w0 w w' : World} {F G : Nat → Prop} {b : Nat} {ph ph' m : Int} {z H H' : Nat} {u u' : Value} {O : List Hd}
theorem OutAt.nil : OutAt w0 w F (.slice none 0 0) [] := ⟨World.ownsRow_nil _ _ _ _, fun i hi => by cases hi⟩
theorem OutAt.kp (h : OutAt w0 w F u O) (k : Kp F w w') (F' : Nat → Prop) (hF : ∀ i, F' i → F i ∨ w.heap.size ≤ i) : OutAt w0 w' F' u O :=
  ⟨kp_row h.1 k fun i hi => (h.2 i hi).2, fun i hi => ⟨(h.2 i hi).1, fun hf => by
    rcases hF i hf with h1 | h1
    · exact (h.2 i hi).2 h1
    · have := (row_lt h.1 hi).1; omega⟩⟩
theorem OutAt.below (h : OutAt w0 w F u O) (hb : Below w.heap.size w w') : OutAt w0 w' F u O := ⟨kp_row h.1 (kp_keep0 hb) (fun _ _ h => h), h.2⟩
theorem SyW.nextO (h : SyW w F b ph m z H) {I' : Nat → Prop} {y' : Sy} {d' : Sd} (S : SyL w' I' b y' d') (hs : w.heap.size ≤ w'.heap.size) (hT : Tab w') (hM : ∀ i, PyM I' b d'.k d'.bv y'.v i → (F i ∨ w.heap.size ≤ i) ∧ ¬ u'.ownBlock = some i)
    (r : y'.ph = ph' ∧ y'.m = m ∧ y'.z = (z : Int) ∧ y'.n = (d'.bs.length : Int) ∧ y'.n ≤ m ∧ d'.L.length ≤ z ∧ d'.qa.x.h ≤ (H' : Int) ∧ d'.qs.x.h ≤ (H' : Int)) :
    ∃ F', SyW w' F' b ph' m z H' ∧ (∀ i, F' i → F i ∨ w.heap.size ≤ i) ∧ ∀ i, u'.ownBlock = some i → ¬ F' i :=
  ⟨fun i => (F i ∨ (w.heap.size ≤ i ∧ i < w'.heap.size)) ∧ ¬ u'.ownBlock = some i, ⟨⟨I', y', d', S, fun i hi => ⟨by
      rcases (hM i hi).1 with h1 | h1
      · exact .inl h1
      · exact .inr ⟨h1, S.mine_lt hi⟩, (hM i hi).2⟩, r⟩, fun i hi => by
      rcases hi.1 with h1 | h1
      · exact Nat.lt_of_lt_of_le (h.lt i h1) hs
      · exact h1.2, h.mb, h.zb, hT, fun i hi => by
      rcases hi.1 with h1 | h1
      · exact h.tr i h1
      · have := h.tab.lt.1; omega, fun i hi => by
      rcases hi.1 with h1 | h1
      · exact h.ts i h1
      · have := h.tab.lt.2; omega⟩, fun i hi => by
      rcases hi.1 with h1 | h1
      · exact .inl h1
      · exact .inr h1.1, fun i hi h => h.2 hi⟩
theorem SyW.phc (h : SyW w F b ph m z H) : w.cell? ⟨b, 0, none⟩ = some (.int .i64 ph) := by
  obtain ⟨I, y, d, S, hM, e1, _⟩ := h.ex
  rw [← e1]
  exact S.has.ph
def KpQ (w0 w : World) (F : Nat → Prop) (b : Nat) (ph m : Int) (z H : Nat) (u : Value) (O : List Hd) : Prop := ∃ F', SyW w F' b ph m z H ∧ Kp F w0 w ∧ (∀ i, F' i → F i ∨ w0.heap.size ≤ i) ∧ OutAt w0 w F' u O
theorem hold_at {F0 : Nat → Prop} (W : SyW w F b ph m z H) (K : Kp F0 w0 w) (N : ∀ i, F i → F0 i ∨ w0.heap.size ≤ i) (hU : OutAt w0 w F u O) (hl : O.length ≤ 3000) (ht : Tab w0 ∧ ¬ F0 1 ∧ ¬ F0 0) (x : Hd) (ho : x.ok) :
    Calls Tryz.prog 59 #[.pointer (some ⟨b, 0, none⟩), .agg (hdA x), u] w fun r w' => ∃ u' O', r = .returned u' ∧ KpQ w0 w' F0 b ph m z H u' O' ∧ O'.length ≤ O.length + 1 := by
  obtain ⟨I, y, d, S, hM, e1, e2, e3, e4, e5, e6, e7, e8⟩ := W.ex
  refine (hold_w (Lib.hid S) x ho z (Lib.hid e3) (Lib.hid W.zb) (Lib.hid e6) u O (Lib.hid hU.1) (Lib.hid fun i hi hm => (hU.2 i hi).2 (hM i hm)) (Lib.hid hl)).mono ?_
  rintro r w' ⟨u', v', L', rfl, S', hL, ⟨O', hr, hO'⟩, k, hv, hu, hu2⟩
  have K' : Kp F0 w0 w' := K.trans k fun i hi hl => by
    rcases hi with rfl | hi | hi
    · exact (N _ (hM _ (.inr (.inl rfl)))).elim id (fun h => by omega)
    · exact (N _ (hM _ (.inr (.inr (.inr (.inr hi)))))).elim id (fun h => by omega)
    · have := (hU.2 i hi).1; omega
  obtain ⟨F', W', n', a'⟩ := W.nextO (u' := u') S' k.size (tab_kp ht.1 K' ht.2.1 ht.2.2) (fun i hi => ⟨by
    rcases hi with hi | hi | hi | hi | hi
    · exact .inl (hM i (.inl hi))
    · exact .inl (hM i (.inr (.inl hi)))
    · exact .inl (hM i (.inr (.inr (.inl hi))))
    · exact .inl (hM i (.inr (.inr (.inr (.inl hi)))))
    · rcases hv i hi with h | h
      · exact .inl (hM i (.inr (.inr (.inr (.inr h)))))
      · exact .inr h, fun e => hu i e hi⟩) ⟨e1, e2, e3, e4, e5, hL, e7, e8⟩
  exact ⟨u', O', rfl, ⟨F', W', K', fun i hi => (n' i hi).elim (N i) (fun h => .inr (Nat.le_trans K.size h)), hr, fun i hi => ⟨(hu2 i hi).elim (fun h => (hU.2 i h).1) (fun h => Nat.le_trans K.size h), a' i hi⟩⟩, hO'⟩
end
def MtR (u : World) (d : Sd) (b1 : Bool) (w' : World) : Prop := (b1 = false → Below u.heap.size u w') ∧ (b1 = true → ∃ mm, BookAt w' d.k d.bv d.x d.bs mm ∧ PenStep u w' d.k d.bv d.bv)
def KeepQ (w : World) (F : Nat → Prop) (b : Nat) (m : Int) (z H n : Nat) (r : Ending) (w' : World) : Prop := ∃ v e ph', r = .returned (.tuple #[v, .int .i64 e]) ∧ (∃ g q c, v = .slice g q c) ∧ ((e = 0 ∧ (ph' = 2 ∨ ph' = 3) ∧ SyP w F b ph' m z (H + n) w') ∨ (¬ e = 0 ∧ SyEP w F b m w')) ∧ (n = 0 → e = 0 ∧ ph' = 2)
theorem out_slice {w : World} {u : Value} {O : List Hd} (h : w.ownsRow 0 30 68 u O.length (headersC O)) : ∃ g q c, u = .slice g q c := by
  rcases row_nil_or w h with ⟨e, _⟩ | ⟨g, c, e⟩
  · exact ⟨_, _, _, e⟩
  · exact ⟨_, _, _, e⟩
set_option maxHeartbeats 16000000 in
theorem keep_at {w : World} {F : Nat → Prop} {b : Nat} {m : Int} {z H : Nat} (W : Hid (SyW w F b 2 m z H)) (now : Int) (a : Option Addr) (ls : List Hd) (n c : Nat) (hn : n = ls.length) (hl : n ≤ 64) (hA : Hid (∀ w', Kp F w w' → HeadersAt w' a ls)) (hH : H + 64 ≤ 1000000) :
    Calls Tryz.prog 39 #[.pointer (some ⟨b, 0, none⟩), .int .i64 now, .slice a n c] w fun r w' => KeepQ w F b m z H n r w' := by
  have HN := Lib.hid hn
  have HTB := Lib.hid (show Tab w ∧ ¬ F 1 ∧ ¬ F 0 from ⟨W.out.tab, fun h => by have := W.out.tr _ h; omega, fun h => by have := W.out.ts _ h; omega⟩)
  have HTL := Lib.hid W.out.tab.lt
  clear hn
  go_enter Tryz.func39, Tryz.ntmps39
  go_wp2_with fail
  go_loopw [8, 14] (fun u i wr => ∃ (k : Nat) (ph : Int) (O : List Hd), k ≤ n ∧ i = .int .i64 (k : Int) ∧ Hid (ph = 2 ∨ ph = 3) ∧ KpQ w wr F b ph m z (H + k) u O ∧ Hid (O.length ≤ k + 64) ∧ Hid (ph = 2 → O.length ≤ k) ∧ Hid (k = 0 → ph = 2)) (fun _ i _ => n - (intOf i).toNat)
  case atStart => exact ⟨0, 2, [], Nat.zero_le _, rfl, Lib.hid (.inl rfl), ⟨F, W.out, Kp.refl _ _, fun _ hi => .inl hi, OutAt.nil⟩, Lib.hid (Nat.zero_le _), Lib.hid (fun _ => Nat.zero_le _), Lib.hid fun _ => rfl⟩
  case round =>
    obtain ⟨k, ph, O, hk, rfl, hph, hQ, hO1, hO2, hp0⟩ := hrel
    by_cases hlt : k < n
    · obtain ⟨F1, W1, k1, n1, U1⟩ := hQ
      have hkl : k < ls.length := by rw [← HN.out]; exact hlt
      obtain ⟨ab, ao, rfl, habl, hc⟩ := (hA.out wr k1) (by omega)
      obtain ⟨ho, rx⟩ := hc k hkl
      obtain ⟨x, hx⟩ : ∃ x, x = ls[k] := ⟨_, rfl⟩
      rw [← hx] at ho rx
      have zx := hdC_length ho
      have za := hdA_size ho
      have hz0 := hdA_size hdZ_ok
      have hZ := hd_newz wr
      have f1 : (k : Int) < (n : Int) := by omega
      have HW1 := Lib.hid W1
      have HK1 := Lib.hid k1
      have HN1 := Lib.hid n1
      have HU1 := Lib.hid U1
      have OX := Lib.hid ho
      clear hx hc W1 k1 n1 ho U1
      go_upto_region 5 with (first
        | (with_reducible refine hd_load_mid rfl _ rfl ab (ao + k * 68) rfl x rx zx ?_)
        | (with_reducible refine hd_store rfl _ _ rfl _ _ x rfl rfl rfl za hZ hz0 ?_))
      have hX : HdAt ((wr.alloc (.cells Tryz.zeroCells30 30)).setRow wr.heap.size (hdA x)) wr.heap.size x := Has.row hZ _
      have hb2 : Below wr.heap.size wr ((wr.alloc (.cells Tryz.zeroCells30 30)).setRow wr.heap.size (hdA x)) := below_setRow ((Below.refl _ _).alloc (Nat.le_refl _) _) (Nat.le_refl _) _
      generalize World.setRow _ _ _ = v1 at *
      obtain ⟨bx, hbx⟩ : ∃ bx, bx = wr.heap.size := ⟨_, rfl⟩
      rw [← hbx] at hX ⊢
      have hxF : ¬ F1 bx := fun h => by have := HW1.out.lt bx h; omega
      clear hbx rx hZ
      have W2 := HW1.out.below hb2
      obtain ⟨hh, c126, hh0, hh1⟩ := W2.height
      have HW2 := Lib.hid W2
      have HK2 := Lib.hid (HK1.out.trans (Kp.of (F := fun _ => False) hb2) (fun _ hi _ => hi.elim))
      have HU2 := Lib.hid (HU1.out.below hb2)
      have HX2 := Lib.hid hX
      have HXF := Lib.hid hxF
      have G1 := Lib.hid hh0
      have G2 := Lib.hid hh1
      clear W2 hb2 HW1 HK1 hh0 hh1 HU1 hxF
      go_wp2_with (with_reducible refine hd_load rfl _ rfl _ rfl hX za ?_)
      clear hX c126
      refine (goOn_at HW2.out (by omega) x OX.out now).mono ?_
      rintro r v2 ⟨g, rfl, F2, W3, k3, n3⟩
      have HW3 := Lib.hid W3
      have HK3 := Lib.hid (HK2.out.trans k3 fun i hi hl => (HN1.out i hi).elim id (fun h => by omega))
      have HN3 := Lib.hid (show ∀ i, F2 i → F i ∨ w.heap.size ≤ i from fun i hi => (n3 i hi).elim (HN1.out i) (fun h => .inr (Nat.le_trans HK2.out.size h)))
      have HU3 := Lib.hid (HU2.out.kp k3 F2 n3)
      have X3 : HdAt v2 bx x := k3.has HX2.out HXF.out
      have HXF3 := Lib.hid (show ¬ F2 bx from fun h => (n3 bx h).elim HXF.out (fun h => by have := HX2.out.lt; omega))
      clear W3 k3 n3 HW2 HK2 HN1 HU2 HX2 HXF
      cases g
      · go_wp2_with fail
        go_ret2
        exact ⟨_, 8, 2, rfl, ⟨_, _, _, rfl⟩, .inr ⟨by decide, F2, HW3.out.err, HK3.out, HN3.out⟩, fun h => by omega⟩
      · have c0 := HW3.out.phc
        rcases hph.out with rfl | rfl
        · have hO3 := Lib.hid (hO2.out rfl)
          clear hO2 hp0
          obtain ⟨I, y, d, S, hM, e1, e2, e3, e4, e5, e6, e7, e8⟩ := HW3.out.ex
          obtain ⟨g, hg⟩ : ∃ g, mt d.x d.bs d.mm hh y.a.prev = g := ⟨_, rfl⟩
          have hprev : y.a.prev.length = 32 := S.ok.a
          have HS := Lib.hid S
          have HM := Lib.hid hM
          have HG := Lib.hid hg
          have E := Lib.hid (show y.ph = 2 ∧ y.m = m ∧ y.z = (z : Int) ∧ y.n = (d.bs.length : Int) ∧ y.n ≤ m ∧ d.L.length ≤ z ∧ d.qa.x.h ≤ ((H + k + 1 : Nat) : Int) ∧ d.qs.x.h ≤ ((H + k + 1 : Nat) : Int) from ⟨e1, e2, e3, e4, e5, e6, e7, e8⟩)
          have HX3 := Lib.hid X3
          clear S hM hg e1 e2 e3 e4 e5 e6 e7 e8 hph X3
          go_upto_region 10 with fail
          clear c0
          refine wp_tab (fun b1 _ w' => MtR v2 d b1 w') 11 99 [3, 10, 11] [.pointer (some ⟨b, 0, none⟩), .pointer (some ⟨b, 0, none⟩), .pointer (some ⟨b, 168, none⟩), .pointer (some ⟨d.k, 0, none⟩), .int .i64 hh, .pointer (some ⟨b, 0, none⟩), .pointer (some ⟨b, 0, none⟩), .pointer (some ⟨b, 126, none⟩), .pointer (some ⟨b, 126, none⟩), .pointer (some ⟨b, 131, none⟩), .agg (bytesV y.a.prev), .bool g, .bool (!g)] ⟨fun _ => (Below.refl _ _).drew, fun h => by cases h⟩
            ⟨fun b1 _ w' f1 _ hC => ?_, fun b1 _ w' f1 _ hC => ?_, fun b1 _ w' f1 _ hC => ?_, trivial⟩ ?_
          · obtain rfl := f1.no (by kernel_rfl)
            exact .val (ex_load_of rfl rfl (ld_book (HS.out.bk ▸ (HS.out.below (hC.1 rfl)).has.k HS.out.ok))) hC
          · obtain rfl := f1.no (by kernel_rfl)
            exact .val (pex_load_hl rfl rfl ((HS.out.below (hC.1 rfl)).has.prev HS.out.ok) hprev) hC
          · obtain rfl : b1 = false := f1.no (by kernel_rfl)
            exact .call ((meet_at (HS.out.below (hC.1 rfl)).book hh y.a.prev hprev (HW3.out.tab.below (hC.1 rfl))).mono fun e w'' h => ⟨by rw [h.1, HG.out]; rfl, (fun h => by cases h), fun _ => ⟨_, h.2.1, PenStep.below (hC.1 rfl) h.2.2⟩⟩)
          rintro v3 ⟨-, q2⟩
          obtain ⟨mm', hB', hP'⟩ := q2 rfl
          simp only [finT, List.set_cons_zero, List.set_cons_succ, List.tail_cons, List.headD_cons]
          obtain ⟨S', K'⟩ := HS.out.book' hP' hB'
          have KF : Kp F2 v2 v3 := K'.mono fun i hi _ => by
            rcases hi with rfl | hi
            · exact HM.out _ (.inr (.inr (.inl rfl)))
            · exact HM.out _ (.inr (.inr (.inr (.inl hi))))
          obtain ⟨F3, W4, k4, n4⟩ : SyP v2 F2 b 2 m z (H + k + 1) v3 := HW3.out.next S' KF (fun i hi => .inl (HM.out i hi)) E.out
          have HW4 := Lib.hid W4
          have HK4 := Lib.hid (HK3.out.trans k4 fun i hi hl => (HN3.out i hi).elim id (fun h => by omega))
          have HN4 := Lib.hid (show ∀ i, F3 i → F i ∨ w.heap.size ≤ i from fun i hi => (n4 i hi).elim (HN3.out i) (fun h => .inr (Nat.le_trans HK3.out.size h)))
          have HU4 := Lib.hid (HU3.out.kp k4 F3 n4)
          have X4 : HdAt v3 bx x := k4.has HX3.out HXF3.out
          clear W4 k4 n4 HW3 HK3 HN3 HU3 HX3 HXF3 S' K' KF q2 hB' hP' E HS HM HG
          cases g
          · clear X4
            go_wp2_with fail
            go_ret2
            exact ⟨_, 8, 2, rfl, ⟨_, _, _, rfl⟩, .inr ⟨by decide, F3, HW4.out.err, HK4.out, HN4.out⟩, fun h => by omega⟩
          · have hl4 : O.length ≤ 3000 := by have := hO1.out; omega
            go_wp2_with (with_reducible refine hd_load rfl _ rfl _ rfl X4 za ?_)
            clear X4
            refine (hold_at HW4.out HK4.out HN4.out HU4.out hl4 HTB.out x OX.out).mono ?_
            rintro r v4 ⟨u', O', rfl, ⟨F4, W5, k5, n5, U5⟩, hO'⟩
            have HW5 := Lib.hid W5
            have HK5 := Lib.hid k5
            have HN5 := Lib.hid n5
            have HU5 := Lib.hid U5
            have HO' := Lib.hid (show O'.length ≤ k + 1 by have := hO3.out; omega)
            clear W5 k5 n5 U5 hO' HW4 HK4 HN4 HU4 hl4
            go_wp2_with fail
            refine (enough_at HW5.out).mono ?_
            rintro r v5 ⟨⟨g, rfl⟩, hb5⟩
            have HW6 := Lib.hid (HW5.out.below hb5)
            have HK6 := Lib.hid (HK5.out.trans (Kp.of (F := fun _ => False) hb5) (fun _ hi _ => hi.elim))
            have HU6 := Lib.hid (HU5.out.below hb5)
            clear HW5 HK5 HU5 hb5
            cases g
            · go_wp2_with fail
              go_roundw
              case rel => exact ⟨k + 1, 2, O', by omega, by go_num, Lib.hid (.inl rfl), ⟨F4, HW6.out, HK6.out, HN5.out, HU6.out⟩, Lib.hid (Nat.le_trans HO'.out (Nat.le_add_right _ _)), Lib.hid (fun _ => HO'.out), Lib.hid (fun h => by omega)⟩
              case measure => simp [intOf]; omega
            · obtain ⟨I, y, d, S, hM, e1, e2, e3, e4, e5, e6, e7, e8⟩ := HW6.out.ex
              obtain ⟨va, vn, vc, hv⟩ := S.ok.v
              have hro := S.row
              rw [hv] at hro
              have hzb := HW6.out.zb
              obtain ⟨u2, v6, r1, r2, r3, r4⟩ := append_hds HU6.out.1 hro (heads_one d.L) (by have := HO'.out; omega) 33
              have hlo : F4 b := hM b (.inr (.inl rfl))
              have hz8 := HTL.out
              have K7 : Kp (fun i => u'.ownBlock = some i) v5 v6 := Kp.gb r3 (fun k hk => hk)
              have S7 := S.on K7 fun i hi hu => (HU6.out.2 i hu).2 (hM i hi)
              have K8 := kp_cell (Below.refl v6.heap.size v6) b 0 (.int .i64 3)
              have S8 := S7.same K8 (S7.has.setPh 3) ⟨S7.ok.p, S7.ok.one, S7.ok.s, S7.ok.a, S7.ok.v⟩ rfl rfl rfl rfl rfl rfl rfl
              have KK : Kp F w (v6.setCell ⟨b, 0, none⟩ (.int .i64 3)) := (HK6.out.trans K7 (fun i hu hl => by have := (HU6.out.2 i hu).1; omega)).trans K8 (fun i hi hl => by
                subst hi
                exact (HN5.out _ hlo).elim id (fun h => by omega))
              have hub : ∀ i, u2.ownBlock = some i → ¬ F4 i ∧ w.heap.size ≤ i := fun i hi => by
                rcases r4 with r4 | r4
                · exact ⟨(HU6.out.2 i (r4 ▸ hi)).2, (HU6.out.2 i (r4 ▸ hi)).1⟩
                · rw [r4] at hi
                  cases hi
                  exact ⟨fun h => by have := HW6.out.lt _ h; omega, HK6.out.size⟩
              obtain ⟨F5, W8, n8, a8⟩ := HW6.out.nextO (u' := u2) (ph' := 3) (H' := H + k + 1) S8 (Nat.le_trans K7.size K8.size) (tab_kp HTB.out.1 KK HTB.out.2.1 HTB.out.2.2) (fun i hi => ⟨.inl (hM i hi), fun e => (hub i e).1 (hM i hi)⟩) ⟨rfl, e2, e3, e4, e5, e6, e7, e8⟩
              have U8 : OutAt w (v6.setCell ⟨b, 0, none⟩ (.int .i64 3)) F5 u2 (O' ++ d.L) := ⟨by rw [heads_app, List.length_append]; exact kp_row r2 K8 (fun i hi e => (hub i hi).1 (e ▸ hlo)), fun i hi => ⟨(hub i hi).2, a8 i hi⟩⟩
              have HQ8 := Lib.hid (show KpQ w (v6.setCell ⟨b, 0, none⟩ (.int .i64 3)) F b 3 m z (H + (k + 1)) u2 (O' ++ d.L) from ⟨F5, W8, KK, fun i hi => (n8 i hi).elim (HN5.out i) (fun h => .inr (Nat.le_trans HK6.out.size h)), U8⟩)
              have HL8 := Lib.hid (show (O' ++ d.L).length ≤ k + 1 + 64 by rw [List.length_append]; have := HO'.out; omega)
              have c172 : v5.cell? ⟨b, 172, none⟩ = some (.slice va vn vc) := hv ▸ S.has.v S.ok
              have c0 := S7.has.ph
              have f0 := S7.has.free 0
              clear KK W8 U8 hub r2 r3 r4 n8 a8 K7 K8 S7 S8 hro hv S hM e1 e2 e3 e4 e5 e6 e7 e8 HW6 HK6 HU6 HN5 hlo hz8 hzb
              go_upto_region 15 with (at_builtin; refine st_val rfl (ex_append_hds rfl rfl rfl r1) ?_)
              clear r1 c172
              go_wp2_with fail
              go_roundw
              case rel => exact ⟨k + 1, 3, O' ++ d.L, by omega, by go_num, Lib.hid (.inr rfl), HQ8.out, HL8, Lib.hid (fun h => by omega), Lib.hid (fun h => by omega)⟩
              case measure => simp [intOf]; omega
        · have bA : Below v2.heap.size v2 (v2.alloc (.cells (hdA x) 30)) := (Below.refl _ _).alloc (Nat.le_refl _) _
          obtain ⟨u', v3, r1, r2, r3, r4⟩ := append_hds (w := v2.alloc (.cells (hdA x) 30)) (HU3.out.below bA).1 (row_one OX.out (Has.new _ _)) (hdC_one x) (by have := hO1.out; omega) 33
          have K4 : Kp (fun i => u8.ownBlock = some i) v2 v3 := (Kp.of bA).trans (Kp.gb r3 (fun k hk => hk)) (fun _ hi _ => hi)
          have hz8 := HTL.out
          have W4 : SyW v3 F2 b 3 m z (H + k + 1) := HW3.out.on K4 (fun i hi hu => (HU3.out.2 i hu).2 hi) (fun hu => by have := (HU3.out.2 _ hu).1; omega) (fun hu => by have := (HU3.out.2 _ hu).1; omega)
          have U4 : OutAt w v3 F2 u' (O ++ [x]) := ⟨by rw [heads_snoc, List.length_append]; exact r2, fun i hi => by
            rcases r4 with r4 | r4
            · exact HU3.out.2 i (r4 ▸ hi)
            · rw [r4] at hi
              cases hi
              exact ⟨Nat.le_trans HK3.out.size bA.size, fun h => by have := HW3.out.lt _ h; have := bA.size; omega⟩⟩
          have HQ4 := Lib.hid (show KpQ w v3 F b 3 m z (H + (k + 1)) u' (O ++ [x]) from ⟨F2, W4, HK3.out.trans K4 (fun i hu hl => by have := (HU3.out.2 i hu).1; omega), HN3.out, U4⟩)
          have hoo := OX.out
          have HL4 := Lib.hid (show (O ++ [x]).length ≤ k + 1 + 64 by rw [List.length_append]; have := hO1.out; simp only [List.length_cons, List.length_nil]; omega)
          clear r2 r3 r4 K4 W4 U4 HW3 HK3 HN3 HU3 HXF3 bA hph hz8
          go_upto_region 16 with (first
            | (with_reducible refine hd_load rfl _ rfl _ rfl X3 za ?_)
            | (with_reducible refine st_val rfl (ex_build_hd rfl rfl hoo) ?_)
            | (at_builtin; refine st_val rfl (ex_append_hds rfl rfl rfl r1) ?_))
          clear r1
          go_wp2_with fail
          go_roundw
          case rel => exact ⟨k + 1, 3, O ++ [x], by omega, by go_num, Lib.hid (.inr rfl), HQ4.out, HL4, Lib.hid (fun h => by omega), Lib.hid (fun h => by omega)⟩
          case measure => simp [intOf]; omega
    · obtain rfl : k = n := by omega
      have f1 : ¬ (k : Int) < (k : Int) := by omega
      obtain ⟨F1, W1, k1, n1, U1⟩ := hQ
      obtain ⟨ga, gn, gc, rfl⟩ := out_slice U1.1
      have HP := Lib.hid (show SyP w F b ph m z (H + k) wr from ⟨F1, W1, k1, n1⟩)
      clear W1 k1 n1 U1
      go_wp2_with fail
      go_ret2
      exact ⟨_, 0, ph, rfl, ⟨_, _, _, rfl⟩, .inl ⟨rfl, hph.out, HP.out⟩, fun h => ⟨rfl, hp0.out h⟩⟩
end Go.Proofs.YthcebnfdapcllaaGreatDoor.An
namespace Go.Proofs.YthcebnfdapcllaaGreatDoor.An
open Go.RowKit Mem Sc NN.Rg2
open Pg (Pl pbit gv Ws)
set_option maxRecDepth 100000
theorem clock_at (now : Int) (w : World) : Calls Tryz.prog 21 #[.int .i64 now] w fun r w' => r = .returned (.bool (decide (0 ≤ now) && decide (now ≤ 4294967296))) ∧ w = w' := by
  obtain ⟨b1, h1⟩ : ∃ b1, decide ((0 : Int) ≤ now) = b1 := ⟨_, rfl⟩
  obtain ⟨b2, h2⟩ : ∃ b2, decide (now ≤ (4294967296 : Int)) = b2 := ⟨_, rfl⟩
  rw [h1, h2]
  cases b1 <;> cases b2
  all_goals
    go_enter Tryz.func21, Tryz.ntmps21
    go_wp2_with fail
    go_ret
    exact ⟨rfl, rfl⟩
section
variable {w : World} {b : Nat} {y : Sy}
theorem phase_at (h : SyAt w b y) : Calls Tryz.prog 11 #[.pointer (some ⟨b, 0, none⟩)] w fun r w' => r = .returned (.int .i64 y.ph) ∧ Below w.heap.size w w' := by
  have c0 := h.ph
  generalize y.ph = ph at *
  go_enter Tryz.func11, Tryz.ntmps11
  go_wp2_with fail
  go_ret
  exact ⟨rfl, Below.refl _ _⟩
theorem bits_at19 (h : SyAt w b y) (ho : y.Ok) : Calls Tryz.prog 9 #[.pointer (some ⟨b, 0, none⟩)] w fun r w' => r = .returned (.int .i64 y.n) ∧ Below w.heap.size w w' := by
  have c0 := h.n ho
  generalize y.n = ph at *
  go_enter Tryz.func9, Tryz.ntmps9
  go_wp2_with fail
  go_ret
  exact ⟨rfl, Below.refl _ _⟩
theorem held_at (h : SyAt w b y) (ho : y.Ok) {a : Option Addr} {n c : Nat} (hv : y.v = .slice a n c) : Calls Tryz.prog 10 #[.pointer (some ⟨b, 0, none⟩)] w fun r w' => r = .returned (.int .i64 (n : Int)) ∧ Below w.heap.size w w' := by
  have c0 : w.cell? ⟨b, 172, none⟩ = some (.slice a n c) := hv ▸ h.v ho
  go_enter Tryz.func10, Tryz.ntmps10
  go_wp2_with fail
  go_ret
  exact ⟨rfl, Below.refl _ _⟩
end
def TakeQ (w : World) (F : Nat → Prop) (b : Nat) (ph m : Int) (z H n : Nat) (r : Ending) (w' : World) : Prop := ∃ v e ph', r = .returned (.tuple #[v, .int .i64 e]) ∧ (∃ g q c, v = .slice g q c) ∧ ((e = 0 ∧ (ph' = 1 ∨ ph' = 2 ∨ ph' = 3) ∧ SyP w F b ph' m z (H + n) w') ∨ (¬ e = 0 ∧ SyEP w F b m w')) ∧ (n = 0 → e = 0 ∧ ph' = ph)
set_option maxHeartbeats 2000000 in
theorem take_at {w : World} {F : Nat → Prop} {b : Nat} {ph m : Int} {z H : Nat} (W : Hid (SyW w F b ph m z H)) (hph : ph = 1 ∨ ph = 2) (now : Int) (a : Option Addr) (ls : List Hd) (n c : Nat) (hn : n = ls.length) (hl : n ≤ 64) (hA : Hid (∀ w', Kp F w w' → HeadersAt w' a ls)) (hH : H + 64 ≤ 1000000) :
    Calls Tryz.prog 22 #[.pointer (some ⟨b, 0, none⟩), .int .i64 now, .slice a n c] w fun r w' => TakeQ w F b ph m z H n r w' := by
  have c0 := W.out.phc
  rcases hph with rfl | rfl
  · have K := Lib.hid (look_at W now a ls n c hn hl hA hH)
    clear hn
    go_enter Tryz.func22, Tryz.ntmps22
    go_wp2_with fail
    refine K.out.mono ?_
    rintro r w' ⟨e, ph', rfl, h1, h2⟩
    have H1 := Lib.hid h1
    have H2 := Lib.hid h2
    clear h1 h2 c0
    go_wp2_with fail
    go_ret2
    refine ⟨_, e, ph', rfl, ⟨_, _, _, rfl⟩, ?_, H2.out⟩
    rcases H1.out with ⟨h1, h2, h3⟩ | h1
    · exact .inl ⟨h1, h2.elim .inl (fun h => .inr (.inl h)), h3⟩
    · exact .inr h1
  · have K := Lib.hid (keep_at W now a ls n c hn hl hA hH)
    clear hn
    go_enter Tryz.func22, Tryz.ntmps22
    go_wp2_with fail
    refine K.out.mono ?_
    rintro r w' ⟨v, e, ph', rfl, hv, h1, h2⟩
    have H1 := Lib.hid h1
    have H2 := Lib.hid h2
    have HV := Lib.hid hv
    clear h1 h2 c0 hv
    go_wp2_with fail
    go_ret2
    refine ⟨_, e, ph', rfl, HV.out, ?_, H2.out⟩
    rcases H1.out with ⟨h1, h2, h3⟩ | h1
    · exact .inl ⟨h1, .inr h2, h3⟩
    · exact .inr h1
theorem end_at {w : World} {F : Nat → Prop} {b : Nat} {m : Int} (X : SyE w F b m) (ph : Int) (q : List UInt8) (hq : q.length = 32) :
    Calls Tryz.prog 23 #[.pointer (some ⟨b, 0, none⟩), .int .i64 ph, .agg (bytesV q)] w fun r w' => r = .returned (.tuple #[]) ∧ ∃ n, SyAt w' b (dead ph n q) ∧ n ≤ m + 1 ∧ Kp F w w' ∧ F b := by
  obtain ⟨I, y, d, S, hM, he⟩ := X.ex
  refine (end_w (Lib.hid S) ph q hq).mono ?_
  rintro r w' ⟨rfl, hA, k⟩
  refine ⟨rfl, y.n, hA, he, k.mono fun i hi _ => ?_, hM b (.inr (.inl rfl))⟩
  rcases hi with rfl | hi
  · exact hM _ (.inr (.inl rfl))
  · exact hM _ (.inr (.inr (.inr (.inr hi))))
structure SyD (w : World) (F : Nat → Prop) (b : Nat) (ph m : Int) : Prop where
  ex : ∃ n q, SyAt w b (dead ph n q) ∧ q.length = 32 ∧ n ≤ m + 1
  fb : F b
  lt : ∀ i, F i → i < w.heap.size
def SyX (w : World) (F : Nat → Prop) (b : Nat) (m : Int) (z H : Nat) : Prop := (∃ ph, (ph = 1 ∨ ph = 2) ∧ SyW w F b ph m z H) ∨ (∃ ph, (ph = 0 ∨ ph = 3) ∧ SyD w F b ph m)
theorem dead_at {w : World} {b : Nat} {ph n : Int} {q : List UInt8} {y : Sy} (h : SyAt w b y) (e : y = dead ph n q) : w.cell? ⟨b, 0, none⟩ = some (.int .i64 ph) := by
  subst e
  exact h.ph
set_option maxHeartbeats 2000000 in
theorem feed_dead {w : World} {F : Nat → Prop} {b : Nat} {ph m : Int} (X : SyD w F b ph m) (hph : ph = 0 ∨ ph = 3) (now : Int) (more : Bool) (a : Option Addr) (n c : Nat) :
    Calls Tryz.prog 8 #[.pointer (some ⟨b, 0, none⟩), .int .i64 now, .bool more, .slice a n c] w fun r w' => r = .returned (.tuple #[.slice none 0 0, .int .i64 9]) ∧ Below w.heap.size w w' := by
  obtain ⟨k, q, hA, _, _⟩ := X.ex
  have c0 := dead_at hA rfl
  clear hA
  rcases hph with rfl | rfl
  all_goals
    go_enter Tryz.func8, Tryz.ntmps8
    go_wp2_with fail
    go_ret2
    exact ⟨rfl, Below.refl _ _⟩
set_option maxHeartbeats 2000000 in
theorem feed_arg {w : World} {F : Nat → Prop} {b : Nat} {ph m : Int} {z H : Nat} (W : SyW w F b ph m z H) (hph : ph = 1 ∨ ph = 2) (now : Int) (more : Bool) (a : Option Addr) (n c : Nat) (g1 g2 : Bool) (h1 : (decide (0 ≤ now) && decide (now ≤ 4294967296)) = g1) (h2 : decide ((64 : Int) < (n : Int)) = g2) (hb : g1 = false ∨ g2 = true) :
    Calls Tryz.prog 8 #[.pointer (some ⟨b, 0, none⟩), .int .i64 now, .bool more, .slice a n c] w fun r w' => r = .returned (.tuple #[.slice none 0 0, .int .i64 1]) ∧ Below w.heap.size w w' := by
  have c0 := W.phc
  have K := Lib.hid (fun w' => clock_at now w')
  rw [h1] at K
  clear h1
  rcases hph with rfl | rfl <;> cases g1 <;> cases g2
  all_goals first
    | (rcases hb with hb | hb <;> cases hb; done)
    | (clear hb
       go_enter Tryz.func8, Tryz.ntmps8
       go_wp2_with fail
       refine (K.out _).mono ?_
       rintro r w' ⟨rfl, rfl⟩
       go_wp2_with fail
       go_ret2
       exact ⟨rfl, Below.refl _ _⟩)
def SyXP (w : World) (F : Nat → Prop) (b : Nat) (m : Int) (z H : Nat) (w' : World) : Prop := ∃ F', SyX w' F' b m z H ∧ Kp F w w' ∧ ∀ i, F' i → F i ∨ w.heap.size ≤ i
theorem SyW.prevr {w : World} {F : Nat → Prop} {b : Nat} {ph m : Int} {z H : Nat} (W : SyW w F b ph m z H) : ∃ q, q.length = 32 ∧ w.rangeAt b 131 (Lib.byteCells q) := by
  obtain ⟨I, y, d, S, hM, _⟩ := W.ex
  exact ⟨_, S.ok.a, S.has.prev S.ok⟩
theorem ended {w w1 w2 : World} {F F2 : Nat → Prop} {b : Nat} {ph m k : Int} {z H : Nat} {q : List UInt8} (X : SyE w1 F2 b m) (k2 : Kp F w w1) (n2 : ∀ i, F2 i → F i ∨ w.heap.size ≤ i) (hph : ph = 0 ∨ ph = 3) (hA : SyAt w2 b (dead ph k q)) (hq : q.length = 32) (hk : k ≤ m + 1) (k3 : Kp F2 w1 w2) (hb : F2 b) : SyXP w F b m z H w2 :=
  ⟨F2, .inr ⟨ph, hph, ⟨⟨k, q, hA, hq, hk⟩, hb, fun i hi => Nat.lt_of_lt_of_le (X.lt i hi) k3.size⟩⟩, k2.trans k3 fun i hi hl => (n2 i hi).elim id (fun h => by omega), n2⟩
set_option maxHeartbeats 8000000 in
theorem feed_run {w : World} {F : Nat → Prop} {b : Nat} {ph m : Int} {z H : Nat} (W : Hid (SyW w F b ph m z H)) (hph : ph = 1 ∨ ph = 2) (now : Int) (more : Bool) (a : Option Addr) (ls : List Hd) (n c : Nat) (hn : n = ls.length) (hl : n ≤ 64) (hA : Hid (∀ w', Kp F w w' → HeadersAt w' a ls)) (hH : H + 64 ≤ 1000000) (h1 : 0 ≤ now ∧ now ≤ 4294967296) :
    Calls Tryz.prog 8 #[.pointer (some ⟨b, 0, none⟩), .int .i64 now, .bool more, .slice a n c] w fun r w' => ∃ v e, r = .returned (.tuple #[v, .int .i64 e]) ∧ SyXP w F b m z (H + n) w' ∧ (n = 0 → more = false → e = 5 ∧ ∃ k q, SyAt w' b (dead 0 k q)) := by
  have c0 := W.out.phc
  have K := Lib.hid (fun w' => clock_at now w')
  rw [decide_eq_true h1.1, decide_eq_true h1.2] at K
  have KT := Lib.hid (take_at W hph now a ls n c hn hl hA hH)
  have hz32 : z32.length = 32 := rfl
  have f64 : decide ((64 : Int) < (n : Int)) = false := by rw [decide_eq_false_iff_not]; omega
  have t0 : (ph == 0) = false := by rcases hph with rfl | rfl <;> rfl
  have t3 : (ph == 3) = false := by rcases hph with rfl | rfl <;> rfl
  have HPH := Lib.hid hph
  clear hn hph
  go_enter Tryz.func8, Tryz.ntmps8
  go_wp2_with fail
  refine (K.out _).mono ?_
  rintro r w0 ⟨rfl, rfl⟩
  go_wp2_with fail
  refine KT.out.mono ?_
  rintro r w1 ⟨v, e, ph', rfl, ⟨vg, vq, vc, rfl⟩, hT, hn0⟩
  have HN0 := Lib.hid hn0
  clear hn0 c0 K KT t0 t3 f64
  rcases hT with ⟨rfl, hph', hP⟩ | ⟨he, hP⟩
  · obtain ⟨F2, W2, k2, n2⟩ := hP
    have c0 := W2.phc
    obtain ⟨q, hq, hr⟩ := W2.prevr
    have HW2 := Lib.hid W2
    have HK2 := Lib.hid k2
    have HN2 := Lib.hid n2
    obtain ⟨g0, hg0⟩ : ∃ g0, (ph' == ph) = g0 := ⟨_, rfl⟩
    obtain ⟨g3, hg3⟩ : ∃ g3, (ph' == 3) = g3 := ⟨_, rfl⟩
    have HP' := Lib.hid hph'
    have HG0 := Lib.hid hg0
    have HG3 := Lib.hid hg3
    clear W2 k2 n2 hph'
    cases more
    · cases g0
      · cases g3
        · clear hr
          go_wp2_with fail
          go_ret2
          exact ⟨_, 0, rfl, ⟨F2, .inl ⟨ph', (by
            rcases HP'.out with h | h | h
            · exact .inl h
            · exact .inr h
            · subst h; cases HG3.out), HW2.out⟩, HK2.out, HN2.out⟩, by intro h; have := HG0.out; rw [(HN0.out h).2, beq_self_eq_true] at this; cases this⟩
        · go_wp2_with (with_reducible refine st_val rfl (pex_load_hl rfl rfl hr hq) ?_)
          refine (end_at HW2.out.err 3 q hq).mono ?_
          rintro r w2 ⟨rfl, k, hD, hk, k3, hb⟩
          have HR := Lib.hid (ended (z := z) (H := H + n) HW2.out.err HK2.out HN2.out (.inr rfl) hD hq hk k3 hb)
          clear hD hk k3 hb hr
          go_wp2_with fail
          go_ret2
          exact ⟨_, 0, rfl, HR.out, by intro h; have := HG0.out; rw [(HN0.out h).2, beq_self_eq_true] at this; cases this⟩
      · clear hr
        go_wp2_with fail
        refine (end_at HW2.out.err 0 z32 hz32).mono ?_
        rintro r w2 ⟨rfl, k, hD, hk, k3, hb⟩
        have HR := Lib.hid (ended (z := z) (H := H + n) HW2.out.err HK2.out HN2.out (.inl rfl) hD hz32 hk k3 hb)
        have HD := Lib.hid hD
        clear hD hk k3 hb
        go_wp2_with fail
        go_ret2
        exact ⟨_, 5, rfl, HR.out, fun _ => ⟨rfl, _, _, HD.out⟩⟩
    · cases g3
      · clear hr
        go_wp2_with fail
        go_ret2
        exact ⟨_, 0, rfl, ⟨F2, .inl ⟨ph', (by
          rcases HP'.out with h | h | h
          · exact .inl h
          · exact .inr h
          · subst h; cases HG3.out), HW2.out⟩, HK2.out, HN2.out⟩, by first | trivial | (intro _ hm; cases hm)⟩
      · go_wp2_with (with_reducible refine st_val rfl (pex_load_hl rfl rfl hr hq) ?_)
        refine (end_at HW2.out.err 3 q hq).mono ?_
        rintro r w2 ⟨rfl, k, hD, hk, k3, hb⟩
        have HR := Lib.hid (ended (z := z) (H := H + n) HW2.out.err HK2.out HN2.out (.inr rfl) hD hq hk k3 hb)
        clear hD hk k3 hb hr
        go_wp2_with fail
        go_ret2
        exact ⟨_, 0, rfl, HR.out, by first | trivial | (intro _ hm; cases hm)⟩
  · obtain ⟨F2, X2, k2, n2⟩ := hP
    have e0 : (e == 0) = false := by simpa using he
    have HX2 := Lib.hid X2
    have HK2 := Lib.hid k2
    have HN2 := Lib.hid n2
    have HE := Lib.hid he
    clear X2 k2 n2 he
    go_wp2_with fail
    refine (end_at HX2.out 0 z32 hz32).mono ?_
    rintro r w2 ⟨rfl, k, hD, hk, k3, hb⟩
    have HR := Lib.hid (ended (z := z) (H := H + n) HX2.out HK2.out HN2.out (.inl rfl) hD hz32 hk k3 hb)
    clear hD hk k3 hb
    go_wp2_with fail
    go_ret2
    exact ⟨_, e, rfl, HR.out, fun h _ => (HE.out (HN0.out h).1).elim⟩
end Go.Proofs.YthcebnfdapcllaaGreatDoor.An
namespace Go.Proofs.YthcebnfdapcllaaGreatDoor.An
open Go.RowKit Mem Sc NN.Rg2
open Pg (Pl pbit gv Ws)
set_option maxRecDepth 100000
theorem ex_max {ρ : Operand → Value} {o : Oper} {w : World} {x y : Operand} {a b m : Int} (ho : o.op = .call { callee := .builtin .max, args := #[x, y], argTypes := #[3, 3] }) (hx : ρ x = .int .i64 a) (hy : ρ y = .int .i64 b) (h : m = max a b) : (execOp ρ o).run Tryz.prog w = .ok (.value (.int .i64 m)) w := by
  unfold execOp
  simp only [ho, resolve, invoke, builtin, Sem.run_bind, Sem.run_pure, Result.andThen_ok, List.map_toArray, List.map_cons, List.map_nil, hx, hy, MM.max_is a b m h]
theorem ex_build_new {ρ : Operand → Value} {o : Oper} {w : World} {x1 x2 x3 x4 x6 x7 : Operand} {p : NN.Pr} (hp : p.ok) {s : Sp} (hs : s.ok) {c : Nat} {k : Option Addr} {m z : Int} (ho : o.op = .build 73 #[(0, .const (.int .i64 1)), (1, x1), (2, x2), (3, x3), (4, x4), (6, x6), (7, x7)]) (h1 : ρ x1 = .agg (NN.prA p)) (h2 : ρ x2 = .agg (stA s c)) (h3 : ρ x3 = .agg (stA s c)) (h4 : ρ x4 = .pointer k) (h6 : ρ x6 = .int .i64 m) (h7 : ρ x7 = .int .i64 z) (h0 : ρ (.const (.int .i64 1)) = .int .i64 1) : (execOp ρ o).run Tryz.prog w = .ok (.value (.agg (syA ⟨1, p, s, c, s, c, k, 0, m, z, .slice none 0 0⟩))) w := by
  unfold execOp
  simp only [ho, Sem.run_bind]
  rw [show (#[(0, .const (.int .i64 1)), (1, x1), (2, x2), (3, x3), (4, x4), (6, x6), (7, x7)] : Array (Nat × Operand)).map (fun (i, x) => (i, ρ x)) = #[(0, .int .i64 1), (1, .agg (NN.prA p)), (2, .agg (stA s c)), (3, .agg (stA s c)), (4, .pointer k), (6, .int .i64 m), (7, .int .i64 z)] by simp [h0, h1, h2, h3, h4, h6, h7], run_build w 73 _ _ (built_new p hp s hs c k m z)]
  rfl
theorem ex_box_sy {ρ : Operand → Value} {o : Oper} {w : World} {x : Operand} {y : Sy} (ho : o.op = .box 73 x) (hx : ρ x = .agg (syA y)) : (execOp ρ o).run Tryz.prog w = .ok (.value (.pointer (some ⟨w.heap.size, 0, none⟩))) (w.alloc (.cells (syA y) 73)) := by
  unfold execOp
  simp only [ho, hx, Sem.run_bind, Instr.box, newVar, newRow, run_newObj_alloc, Sem.run_pure, Result.andThen_ok]
  rfl
theorem st37 {w : World} {b : Nat} {s : Sp} {c : Nat} (h : Has w b (stA s c) 63) (hs : s.ok) : w.cell? ⟨b, 37, none⟩ = some (.slice s.a s.n s.c) := by
  rw [Has.cell h 37]
  unfold stA stC
  rw [List.getElem?_toArray, List.getElem?_append_left (by rw [spC_length hs]; omega)]
  exact spC_last hs
theorem st37_set {w : World} {b : Nat} {s : Sp} {c : Nat} (h : Has w b (stA s c) 63) (hs : s.ok) (a : Option Addr) (n k : Nat) : Has (w.setCell ⟨b, 37, none⟩ (.slice a n k)) b (stA { s with a := a, n := n, c := k } c) 63 := by
  have := has_setCells b 63 [.slice a n k] 37 w (.int .i64 s.x.h :: .int .i64 s.x.b :: .int .i64 s.x.t :: .int .i64 s.x.f :: .int .i64 s.x.r :: Lib.byteCells s.prev) [.slice s.a s.n s.c] (nmC c) (by
    have e : stA s c = ((.int .i64 s.x.h :: .int .i64 s.x.b :: .int .i64 s.x.t :: .int .i64 s.x.f :: .int .i64 s.x.r :: Lib.byteCells s.prev) ++ ([Value.slice s.a s.n s.c] ++ nmC c)).toArray := by simp [stA, stC, spC]
    rw [← e]; exact h) (by simp [Lib.byteCells_length, show s.prev.length = 32 from hs]) rfl
  have e : stA { s with a := a, n := n, c := k } c = ((.int .i64 s.x.h :: .int .i64 s.x.b :: .int .i64 s.x.t :: .int .i64 s.x.f :: .int .i64 s.x.r :: Lib.byteCells s.prev) ++ ([Value.slice a n k] ++ nmC c)).toArray := by simp [stA, stC, spC]
  rw [e]
  exact this
theorem ld_ints {w : World} {p : Addr} {a : Option Addr} {n c : Nat} (h : w.cell? p = some (.slice a n c)) : (loadVar 58 p).run Tryz.prog w = .ok (.slice a n c) w := by go_simp
theorem _root_.Go.Proofs.YthcebnfdapcllaaGreatDoor.MM.Lie.elim_size {w : World} {lo hi : Nat} {p : Option Addr} {l : List Int} (h : MM.Lie w lo hi p l) (h0 : 0 < l.length) : lo ≤ hi := by
  obtain ⟨b, o, _, h1, h2, _⟩ := h h0
  omega
theorem has_range0 {w : World} {b : Nat} {A : List Value} {T : TypeId} (h : Has w b A.toArray T) : w.rangeAt b 0 A := fun j u hu => by
  rw [Nat.zero_add, Has.cell h j, List.getElem?_toArray]
  exact hu
theorem tl_len (t : Tl) (h : t.ok) : t.C.length = 78 := by unfold Tl.C; simp [h.1, hdC_length h.2]
theorem tl_one {p : NN.Pr} {t : Tl} (tt : p.tl = t.C) (h : p.one) (ga : Option Addr) (gn gc : Nat) (ca : Option Addr) (cn cc : Nat) : ({ p with tl := ({ t with ga := ga, gn := gn, gc := gc, ca := ca, cn := cn, cc := cc } : Tl).C } : NN.Pr).one := fun v hv => by
  have h2 : ∀ v ∈ t.C, v.oneCell' = true := by rw [← tt]; exact h
  have hv' : v = .slice ga gn gc ∨ v = .slice ca cn cc ∨ v ∈ t.nn ++ hdC t.g := by simpa [Tl.C] using hv
  rcases hv' with rfl | rfl | hv'
  · rfl
  · rfl
  · exact h2 v (List.mem_cons_of_mem _ (List.mem_cons_of_mem _ hv'))
def newOk (p : NN.Pr) (g : Hd) (gs : List Gt) (cs : List Ck) (x : Pl) (size now : Int) : Bool := ruleP p g gs cs && (x.good && (decide (1 ≤ size) && (decide (size ≤ 64) && (decide (0 ≤ now) && decide (now ≤ 4294967296)))))
def secs (now fut m : Int) : Int := max 0 (IntKind.i64.wrap (IntKind.i64.wrap (now - m) + fut))
set_option maxHeartbeats 16000000 in
theorem new_at19 (p : NN.Pr) (hp : p.ok) (h1 : p.one) (t : Tl) (tt : p.tl = t.C) (ht : t.ok) (gs : List Gt) (cs : List Ck) (hgn : t.gn = gs.length) (hcn : t.cn = cs.length) (hgl : t.gn ≤ 1000) (hcl : t.cn ≤ 1000) (c : Nat) (hmw : ∃ r, t.nn = nmC c ++ r) (hcb : c < NN.Nm.big) (s : Sp) (so : s.ok) (q : Ps) (hq : 0 < q.ts.length ∧ q.ts.length ≤ 11 ∧ 0 ≤ q.x.h) (sw : Nat) (hsw : sw < NN.Nm.big) (x : Pl) (size now : Int) (H : Nat) (hH : q.x.h ≤ (H : Int)) (w : World) (hT : Tab w) (hG : GatesAt w t.ga gs) (hC : ChecksAt w t.ca cs) (hS : SpIs w 0 s q) :
    Calls Tryz.prog 12 #[.agg (NN.prA p), .agg (stA s sw), .agg (plA x), .int .i64 size, .int .i64 now] w fun r w' => Below w.heap.size w w' ∧ ((r = .returned (.tuple #[.pointer none, .int .i64 1]) ∧ newOk p t.g gs cs x size now = false) ∨ (newOk p t.g gs cs x size now = true ∧ ∃ b F, r = .returned (.tuple #[.pointer (some ⟨b, 0, none⟩), .int .i64 0]) ∧ SyW w' F b 1 (mostV x (secs now p.fut (Md.mid q.ts))) size.toNat H ∧ ∀ i, F i → w.heap.size ≤ i)) := by
  obtain ⟨b1, hb1⟩ : ∃ b1, ruleP p t.g gs cs = b1 := ⟨_, rfl⟩
  obtain ⟨b2, hb2⟩ : ∃ b2, x.good = b2 := ⟨_, rfl⟩
  obtain ⟨b5, hb5⟩ : ∃ b5, (decide (0 ≤ now) && decide (now ≤ 4294967296)) = b5 := ⟨_, rfl⟩
  obtain ⟨nk, hnk⟩ : ∃ nk, newOk p t.g gs cs x size now = nk := ⟨_, rfl⟩
  have KG := Lib.hid (fun w' (hb : Below w.heap.size w w') => good11_at p hp t tt ht gs cs hgn hcn hgl hcl w' (hG.below hb) (hC.below hb))
  have KL := Lib.hid (fun w' => good_at x w')
  have KK := Lib.hid (fun w' => clock_at now w')
  rw [hb1] at KG
  rw [hb2] at KL
  rw [hb5] at KK
  rw [hnk]
  have HNK : Hid (nk = (b1 && (b2 && (decide (1 ≤ size) && (decide (size ≤ 64) && b5))))) := Lib.hid (by rw [← hnk, ← hb1, ← hb2, ← hb5]; rfl)
  have HB2 := Lib.hid hb2
  have z1 := NN.prA_size hp
  have z2 := stA_size so sw
  have z3 := stA_one s sw
  have HTT := Lib.hid tt
  have HH := Lib.hid (And.intro hp (And.intro h1 (And.intro ht (And.intro hgn (And.intro hcn (And.intro hgl (And.intro hcl (And.intro hmw (And.intro hcb (And.intro so (And.intro hq (And.intro hsw hH))))))))))))
  have HS := Lib.hid hS
  have HG := Lib.hid hG
  have HC := Lib.hid hC
  have HT := Lib.hid hT
  obtain ⟨M, hM⟩ : ∃ M, mostV x (secs now p.fut (Md.mid q.ts)) = M := ⟨_, rfl⟩
  rw [hM]
  have HMV := Lib.hid hM
  clear hb1 hb2 hb5 hnk tt hp h1 ht hgn hcn hgl hcl hmw hcb so hq hsw hH hS hG hC hT hM
  obtain ⟨xs, xp, xo⟩ := x
  unfold plA at KL ⊢
  dsimp only at KL ⊢
  go_enter Tryz.func12, Tryz.ntmps12
  go_upto_region 1 with fail
  generalize hw0 : World.alloc _ _ = v0
  have hB0 : Below w.heap.size w v0 := by rw [← hw0]; exact (((Below.refl _ _).alloc (Nat.le_refl _) _).alloc (by simp) _).alloc (by simp; omega) _
  have hP : NN.PrAt v0 w.heap.size p := by rw [← hw0]; exact ((NN.Has.new _ _).alloc _).alloc _
  have hSt : Has v0 (w.heap.size + 1) (stA s sw) 63 := by rw [← hw0]; exact (Has.new1 _ (stA s sw) _).alloc _
  have hL : Has v0 (w.heap.size + 1 + 1) #[.int .i64 xs, .int .i64 xp, .int .i64 xo] 35 := by
    rw [← hw0]
    have h2 : ∀ (a b : Obj), ((w.alloc a).alloc b).heap.size = w.heap.size + 1 + 1 := fun a b => by simp
    have := Has.new (w := (w.alloc (.cells (NN.prA p) 32)).alloc (.cells (stA s sw) 63)) #[.int .i64 xs, .int .i64 xp, .int .i64 xo] 35
    rwa [h2] at this
  clear hw0
  obtain ⟨bP, hbP⟩ : ∃ bP, bP = w.heap.size := ⟨_, rfl⟩
  rw [← hbP] at hP hSt hL ⊢
  obtain ⟨bS, hbS⟩ : ∃ bS, bS = bP + 1 := ⟨_, rfl⟩
  rw [← hbS] at hSt hL ⊢
  obtain ⟨bL, hbL⟩ : ∃ bL, bL = bS + 1 := ⟨_, rfl⟩
  rw [← hbL] at hL ⊢
  have HBN := Lib.hid (show bP = w.heap.size ∧ bS = w.heap.size + 1 ∧ bL = w.heap.size + 2 by omega)
  have B0 := Lib.hid hB0
  have S0 := Lib.hid hSt
  have L0 := Lib.hid hL
  clear hB0 hbP hbS hbL hSt
  have cL0 : v0.cell? ⟨bL, 0, none⟩ = some (.int .i64 xs) := hL.cell 0
  have cL1 : v0.cell? ⟨bL, 1, none⟩ = some (.int .i64 xp) := hL.cell 1
  have cL2 : v0.cell? ⟨bL, 2, none⟩ = some (.int .i64 xo) := hL.cell 2
  clear hL
  go_wp2_with (with_reducible refine NN.pr_load rfl _ rfl _ rfl hP z1 ?_)
  refine (KG.out _ B0.out).mono ?_
  rintro r v1 ⟨rfl, hb⟩
  have B1 := Lib.hid (B0.out.trans (hb.mono B0.out.size))
  cases b1
  · obtain rfl : nk = false := HNK.out
    clear hb hP cL0 cL1 cL2
    go_wp2_with fail
    go_ret2
    first | exact ⟨B1.out, .inl ⟨rfl, rfl⟩⟩ | exact ⟨B1.out, rfl⟩
  have HP1 := Lib.hid (show NN.PrAt v1 bP p from below_has hb hP (Has.lt hP))
  have HS1 := Lib.hid (below_has hb S0.out (Has.lt S0.out))
  have HL1 := Lib.hid (below_has hb L0.out (Has.lt L0.out))
  clear hb hP cL0 cL1 cL2 B0 S0 L0
  have cL0 : v1.cell? ⟨bL, 0, none⟩ = some (.int .i64 xs) := HL1.out.cell 0
  have cL1 : v1.cell? ⟨bL, 1, none⟩ = some (.int .i64 xp) := HL1.out.cell 1
  have cL2 : v1.cell? ⟨bL, 2, none⟩ = some (.int .i64 xo) := HL1.out.cell 2
  go_wp2_with fail
  refine (KL.out _).mono ?_
  rintro r v2 ⟨rfl, hb⟩
  have B2 := Lib.hid (B1.out.trans (hb.mono B1.out.size))
  cases b2
  · obtain rfl : nk = false := HNK.out
    clear hb cL0 cL1 cL2
    go_wp2_with fail
    go_ret2
    first | exact ⟨B2.out, .inl ⟨rfl, rfl⟩⟩ | exact ⟨B2.out, rfl⟩
  have HP2 := Lib.hid (show NN.PrAt v2 bP p from below_has hb HP1.out (Has.lt HP1.out))
  have HS2 := Lib.hid (below_has hb HS1.out (Has.lt HS1.out))
  have HL2 := Lib.hid (below_has hb HL1.out (Has.lt HL1.out))
  have HGD := Lib.hid (show (⟨xs, xp, xo⟩ : Pl).good = true from HB2.out)
  have HNK2 : Hid (nk = (decide (1 ≤ size) && (decide (size ≤ 64) && b5))) := Lib.hid HNK.out
  clear hb cL0 cL1 cL2 HP1 HS1 HL1 B1 HNK HB2 KL KG
  by_cases q1 : size < 1
  · obtain rfl : nk = false := by rw [HNK2.out, decide_eq_false (by omega)]; rfl
    go_wp2_with fail
    go_ret2
    first | exact ⟨B2.out, .inl ⟨rfl, rfl⟩⟩ | exact ⟨B2.out, rfl⟩
  by_cases q2 : 64 < size
  · obtain rfl : nk = false := by rw [HNK2.out, decide_eq_false (show ¬ size ≤ 64 by omega), Bool.false_and, Bool.and_false]
    go_wp2_with fail
    go_ret2
    first | exact ⟨B2.out, .inl ⟨rfl, rfl⟩⟩ | exact ⟨B2.out, rfl⟩
  obtain rfl : nk = b5 := by rw [HNK2.out, decide_eq_true (show 1 ≤ size by omega), decide_eq_true (show size ≤ 64 by omega)]; rfl
  clear HNK2
  go_wp2_with fail
  refine (KK.out _).mono ?_
  rintro r v3 ⟨rfl, rfl⟩
  cases nk
  · go_wp2_with fail
    go_ret2
    first | exact ⟨B2.out, .inl ⟨rfl, rfl⟩⟩ | exact ⟨B2.out, rfl⟩
  have HQ := Lib.hid (show 1 ≤ size ∧ size ≤ 64 by omega)
  clear q1 q2 KK
  have cL0 : v2.cell? ⟨bL, 0, none⟩ = some (.int .i64 xs) := HL2.out.cell 0
  have cL1 : v2.cell? ⟨bL, 1, none⟩ = some (.int .i64 xp) := HL2.out.cell 1
  have cL2 : v2.cell? ⟨bL, 2, none⟩ = some (.int .i64 xo) := HL2.out.cell 2
  go_wp2_with fail
  refine (new_yes ⟨xs, xp, xo⟩ HGD.out v2).mono ?_
  rintro r v3 ⟨k, rfl, hk, hBk, hb⟩
  have HP3 := Lib.hid (show NN.PrAt v3 bP p from below_has hb HP2.out (Has.lt HP2.out))
  have HS3 := Lib.hid (below_has hb HS2.out (Has.lt HS2.out))
  have HL3 := Lib.hid (below_has hb HL2.out (Has.lt HL2.out))
  have B3 := Lib.hid (B2.out.trans (hb.mono B2.out.size))
  have HK := Lib.hid (show w.heap.size + 2 < k by have := Has.lt HL2.out; have := HBN.out; omega)
  have HBK := Lib.hid hBk
  clear hb hk hBk HP2 HS2 HL2 B2 cL0 cL1 cL2
  obtain ⟨hp, h1, ht, hgn, hcn, hgl, hcl, hmw, hcb, so, hq, hsw, hH⟩ := HH.out
  have c5 := pr_gates HP3.out HTT.out
  have HHA := Lib.hid (And.intro hp (And.intro h1 (And.intro ht (And.intro hgn (And.intro hcn (And.intro hgl (And.intro hcl (And.intro hmw (And.intro hcb (And.intro so (And.intro hq (And.intro hsw hH))))))))))))
  have KCG := Lib.hid (clone_gates t.ga t.gn t.gc gs hgn hgl v3 (HG.out.below B3.out))
  clear hp h1 ht hgn hcn hgl hcl hmw hcb so hq hsw hH HH
  go_wp2_with fail
  refine KCG.out.mono ?_
  rintro r v4 ⟨ga, gc, rfl, ⟨hG4, hGn⟩, hb⟩
  have HP4 := Lib.hid (show NN.PrAt v4 bP p from below_has hb HP3.out (Has.lt HP3.out))
  have HS4 := Lib.hid (below_has hb HS3.out (Has.lt HS3.out))
  have B4 := Lib.hid (B3.out.trans (hb.mono B3.out.size))
  have HSG := Lib.hid (show Sup (fun i => v3.heap.size ≤ i ∧ i < v4.heap.size) (fun w => GatesAt w ga gs) v4 from sup_gates hG4 fun h0 ad e => ⟨hGn h0 ad e, by
    obtain ⟨ab, ao, e2, hl, _⟩ := hG4 h0
    rw [e] at e2
    cases e2
    exact hl⟩)
  have HK4 := Lib.hid (show Kp (fun i => i = bP ∨ i = bS) v3 v4 from (Kp.of (F := fun _ => False) hb).mono (fun _ h _ => h.elim))
  clear c5 hG4 hGn hb HP3 HS3 KCG
  have c5 := pr_gates HP4.out HTT.out
  have f5 := NN.Has.free HP4.out 5
  go_upto_region 5 with fail
  have HP5 := Lib.hid (pr_sl5 HP4.out HTT.out ga t.gn gc)
  have HS5 := Lib.hid (Has.other HS4.out ⟨bP, 5, none⟩ (.slice ga t.gn gc) (show bS ≠ bP by have := HBN.out; omega))
  have B5 := Lib.hid (show Below w.heap.size w (v4.setCell ⟨bP, 5, none⟩ (.slice ga t.gn gc)) from B4.out.setCell (by have := HBN.out; show w.heap.size ≤ bP; omega) _)
  have K45 := Lib.hid (show Kp (fun i => i = bP ∨ i = bS) v4 (v4.setCell ⟨bP, 5, none⟩ (.slice ga t.gn gc)) from (kp_cell (Below.refl _ _) bP 5 _).mono (fun _ h _ => .inl h))
  clear c5 f5 HP4 HS4 B4
  generalize v4.setCell ⟨bP, 5, none⟩ (.slice ga t.gn gc) = v5 at *
  have K35 := Lib.hid (HK4.out.trans K45.out (fun _ h _ => h))
  have HV35 := Lib.hid (show v3.heap.size ≤ v5.heap.size from K35.out.size)
  clear HK4
  have c6 := pr_checks (t := { t with ga := ga, gn := t.gn, gc := gc }) HP5.out rfl
  obtain ⟨hp, h1, ht, hgn, hcn, hgl, hcl, hmw, hcb, so, hq, hsw, hH⟩ := HHA.out
  have KCC := Lib.hid (clone_checks t.ca t.cn t.cc cs hcn hcl v5 (HC.out.below B5.out))
  clear hp h1 ht hgn hcn hgl hcl hmw hcb so hq hsw hH
  go_wp2_with fail
  refine KCC.out.mono ?_
  rintro r v6 ⟨ca, cc, rfl, ⟨hC6, hCn⟩, hb⟩
  have HP6 := Lib.hid (show NN.PrAt v6 bP _ from below_has hb HP5.out (Has.lt HP5.out))
  have HS6 := Lib.hid (below_has hb HS5.out (Has.lt HS5.out))
  have B6 := Lib.hid (B5.out.trans (hb.mono B5.out.size))
  have HSC := Lib.hid (show Sup (fun i => v5.heap.size ≤ i ∧ i < v6.heap.size) (fun w => ChecksAt w ca cs) v6 from sup_checks hC6 fun h0 ad e => ⟨hCn h0 ad e, by
    obtain ⟨ab, ao, e2, hl, _⟩ := hC6 h0
    rw [e] at e2
    cases e2
    exact hl⟩)
  have K56 : Kp (fun i => i = bP ∨ i = bS) v5 v6 := (Kp.of (F := fun _ => False) hb).mono (fun _ h _ => h.elim)
  have K36 := Lib.hid (K35.out.trans K56 (fun _ h _ => h))
  have K46 := Lib.hid (K45.out.trans K56 (fun _ h _ => h))
  clear c6 hC6 hCn hb HP5 HS5 KCC K56 K35 K45
  have c6 := pr_checks (t := { t with ga := ga, gn := t.gn, gc := gc }) HP6.out rfl
  have f6 := NN.Has.free HP6.out 6
  go_upto_region 6 with fail
  have HP7 := Lib.hid (pr_sl6 (t := { t with ga := ga, gn := t.gn, gc := gc }) HP6.out rfl ca t.cn cc)
  have HS7 := Lib.hid (Has.other HS6.out ⟨bP, 6, none⟩ (.slice ca t.cn cc) (show bS ≠ bP by have := HBN.out; omega))
  have B7 := Lib.hid (show Below w.heap.size w (v6.setCell ⟨bP, 6, none⟩ (.slice ca t.cn cc)) from B6.out.setCell (by have := HBN.out; show w.heap.size ≤ bP; omega) _)
  have K67 := Lib.hid (show Kp (fun i => i = bP ∨ i = bS) v6 (v6.setCell ⟨bP, 6, none⟩ (.slice ca t.cn cc)) from (kp_cell (Below.refl _ _) bP 6 _).mono (fun _ h _ => .inl h))
  clear c6 f6 HP6 HS6 B6
  generalize v6.setCell ⟨bP, 6, none⟩ (.slice ca t.cn cc) = v7 at *
  have K37 := Lib.hid (K36.out.trans K67.out (fun _ h _ => h))
  have K47 := Lib.hid (K46.out.trans K67.out (fun _ h _ => h))
  have HV37 := Lib.hid (show k < v3.heap.size ∧ v3.heap.size ≤ v5.heap.size ∧ v3.heap.size ≤ v7.heap.size ∧ v4.heap.size ≤ v7.heap.size ∧ v6.heap.size ≤ v7.heap.size from ⟨HBK.out.lt, HV35.out, K37.out.size, K47.out.size, K67.out.size⟩)
  clear K36 K46
  obtain ⟨hp, h1, ht, hgn, hcn, hgl, hcl, hmw, hcb, so, hq, hsw, hH⟩ := HHA.out
  obtain ⟨s1, s2, s3, s4, ⟨b0, s5⟩, s6⟩ := HS.out
  have c37 := st37 HS7.out so
  obtain ⟨n, hn⟩ : ∃ n, s.n = n := ⟨_, rfl⟩
  obtain ⟨cp, hcp⟩ : ∃ cp, s.c = cp := ⟨_, rfl⟩
  rw [hn] at s3 s4
  rw [hcp] at s4
  rw [s5, hn, hcp] at c37
  rw [s5] at s6
  obtain ⟨p', hcut, hL⟩ := MM.cut_take (k := n) s3 (Nat.le_refl n) s4 s6
  rw [List.take_of_length_le (by omega)] at hL
  obtain ⟨b3, off, rfl, _, hlt3, hcell⟩ := hL hq.1
  have hmin := MM.min_is (P := Tryz.prog) (n : Int) 11 (n : Int) (by omega)
  have KCL := Lib.hid (Tryz.slices_Clone_int b3 off n cp q.ts v7 (by omega) (by omega) (fun j hj => (B7.out.cell (p := ⟨b3, off + j, none⟩) hlt3).trans (hcell j hj)))
  have HN1 := Lib.hid (show q.ts.length = n ∧ 0 < n ∧ n ≤ 11 by omega)
  have E12 := Lib.hid (And.intro s1 s2)
  clear hp h1 ht hgn hcn hgl hcl hmw hcb so hq hsw hH s1 s2 s3 s4 s5 s6 hL hlt3 hcell hn hcp
  go_wp2_with fail
  refine KCL.out.mono ?_
  rintro r v8 ⟨v', rfl, hown, hnn, hb⟩
  rw [List.take_of_length_le (by have := HN1.out; omega)] at hown
  obtain ⟨pt, ct, rfl, hct, hlt, hlie⟩ := MM.lie_of_owns hown
  obtain ⟨g0, rfl⟩ : ∃ g0, pt = some ⟨g0, 0, none⟩ := by
    rcases hown.2 with ⟨e, h0⟩ | ⟨g0, c0, cur, e, _⟩
    · have := HN1.out; omega
    · cases e; exact ⟨g0, rfl⟩
  have HP8 := Lib.hid (show NN.PrAt v8 bP _ from below_has hb HP7.out (Has.lt HP7.out))
  have HS8 := Lib.hid (below_has hb HS7.out (Has.lt HS7.out))
  have B8 := Lib.hid (B7.out.trans (hb.mono B7.out.size))
  have HSP := Lib.hid (show SpIs v8 v7.heap.size { s with a := some ⟨g0, 0, none⟩, n := n, c := ct } q from ⟨E12.out.1, E12.out.2, HN1.out.1, hct, ⟨g0, rfl⟩, hlie⟩)
  have K78 : Kp (fun i => i = bP ∨ i = bS) v7 v8 := (Kp.of (F := fun _ => False) hb).mono (fun _ h _ => h.elim)
  have K38 := Lib.hid (K37.out.trans K78 (fun _ h _ => h))
  have K48 := Lib.hid (K47.out.trans K78 (fun _ h _ => h))
  have K68 := Lib.hid (K67.out.trans K78 (fun _ h _ => h))
  have HCT := Lib.hid hct
  clear c37 hcut hmin hown hnn hb hlie hlt HP7 HS7 KCL K78 K37 K47 K67 hct
  obtain ⟨hp, h1, ht, hgn, hcn, hgl, hcl, hmw, hcb, so, hq, hsw, hH⟩ := HHA.out
  have c37 := st37 HS8.out so
  have f37 := Has.free HS8.out 37
  have HS9 := Lib.hid (st37_set HS8.out so (some ⟨g0, 0, none⟩) n ct)
  clear hp h1 ht hgn hcn hgl hcl hmw hcb so hq hsw hH
  go_upto_region 7 with fail
  have HP9 := Lib.hid (show NN.PrAt (v8.setCell ⟨bS, 37, none⟩ (.slice (some ⟨g0, 0, none⟩) n ct)) bP _ from Has.other HP8.out ⟨bS, 37, none⟩ (.slice (some ⟨g0, 0, none⟩) n ct) (show bP ≠ bS by have := HBN.out; omega))
  have B9 := Lib.hid (show Below w.heap.size w (v8.setCell ⟨bS, 37, none⟩ (.slice (some ⟨g0, 0, none⟩) n ct)) from B8.out.setCell (by have := HBN.out; show w.heap.size ≤ bS; omega) _)
  have K89 : Kp (fun i => i = bP ∨ i = bS) v8 (v8.setCell ⟨bS, 37, none⟩ (.slice (some ⟨g0, 0, none⟩) n ct)) := (kp_cell (Below.refl _ _) bS 37 _).mono (fun _ h _ => .inr h)
  have HSP9 := Lib.hid (show SpIs (v8.setCell ⟨bS, 37, none⟩ (.slice (some ⟨g0, 0, none⟩) n ct)) v7.heap.size { s with a := some ⟨g0, 0, none⟩, n := n, c := ct } q from spis_cells HSP.out (by have h3 := HBN.out; have h4 := HK.out; have h5 := HV37.out; omega) 37 [.slice (some ⟨g0, 0, none⟩) n ct])
  have K39 := K38.out.trans K89 (fun _ h _ => h)
  have HL9 := Lib.hid (show PlAt (v8.setCell ⟨bS, 37, none⟩ (.slice (some ⟨g0, 0, none⟩) n ct)) bL ⟨xs, xp, xo⟩ from K39.has HL3.out (by have := HBN.out; omega))
  have HBK9 := Lib.hid (book_kp HBK.out K39 (by have h3 := HBN.out; have h4 := HK.out; omega) (fun i hi => by cases hi))
  have HSG9 := Lib.hid (HSG.out.on (K48.out.trans K89 (fun _ h _ => h)) fun i hi h => by have h3 := HBN.out; have h4 := HK.out; have h5 := HV37.out; omega)
  have HSC9 := Lib.hid (HSC.out.on (K68.out.trans K89 (fun _ h _ => h)) fun i hi h => by have h3 := HBN.out; have h4 := HK.out; have h5 := HV37.out; omega)
  have HV9 := Lib.hid (show v7.heap.size ≤ (v8.setCell ⟨bS, 37, none⟩ (.slice (some ⟨g0, 0, none⟩) n ct)).heap.size from HSP9.out.2.2.2.2.2.elim_size (by have := HN1.out; omega))
  clear c37 f37 HP8 HS8 B8 HSP K89 K39 K38 K48 K68 HSG HSC HBK HL3
  generalize v8.setCell ⟨bS, 37, none⟩ (.slice (some ⟨g0, 0, none⟩) n ct) = v9 at *
  obtain ⟨md, hmd⟩ : ∃ md, Md.mid q.ts = md := ⟨_, rfl⟩
  obtain ⟨fut, hfut⟩ : ∃ fut, p.fut = fut := ⟨_, rfl⟩
  obtain ⟨d1, hd1⟩ : ∃ d1, IntKind.i64.wrap (now - md) = d1 := ⟨_, rfl⟩
  obtain ⟨d2, hd2⟩ : ∃ d2, IntKind.i64.wrap (d1 + fut) = d2 := ⟨_, rfl⟩
  obtain ⟨sec, hsec⟩ : ∃ sec, sec = max 0 d2 := ⟨_, rfl⟩
  have HMV9 := Lib.hid (show mostV ⟨xs, xp, xo⟩ sec = M by rw [← HMV.out, hmd, hfut]; unfold secs; rw [hd1, hd2, hsec])
  have HMD := Lib.hid hmd
  have HFU := Lib.hid (show Hid (p.fut = fut) from Lib.hid hfut)
  clear hmd hfut HMV
  refine wp_tab (fun _ _ w' => Below v9.heap.size v9 w') 99 99 [3, 4, 5, 7, 8, 9] [.int .i64 now, .pointer (some ⟨bS, 0, none⟩), .pointer (some ⟨bS, 37, none⟩), .slice (some ⟨g0, 0, none⟩) n ct, .int .i64 md, .int .i64 d1, .pointer (some ⟨bP, 3, none⟩), .int .i64 fut, .int .i64 d2, .int .i64 sec, .int .i64 sec] (Below.refl _ _).drew
    ⟨fun _ _ w' _ _ hC => .val (ex_load_of rfl rfl (ld_ints (st37 (below_has hC HS9.out (Has.lt HS9.out)) HHA.out.2.2.2.2.2.2.2.2.2.1))) hC, fun _ _ w' _ _ hC => .call ((MM.of_at (some ⟨g0, 0, none⟩) n ct q.ts HN1.out.1 HCT.out (by have := HN1.out; omega) w' (HSP9.out.on hC).2.2.2.2.2).mono fun e w'' h => ⟨by rw [h.1, HMD.out]; rfl, hC.trans (h.2.mono hC.size)⟩), fun _ _ w' _ _ hC => .val (ex_subi rfl rfl rfl hd1) hC, fun _ _ w' _ _ hC => .val (ex_load_of rfl rfl (ld_i (NN.PrAt.c3 (show NN.PrAt w' bP _ from below_has hC HP9.out (Has.lt HP9.out)) HFU.out))) hC, fun _ _ w' _ _ hC => .val (ex_addi rfl rfl rfl hd2) hC, fun _ _ w' _ _ hC => .val (ex_max rfl rfl rfl hsec) hC, trivial⟩ ?_
  intro v10 hb
  simp only [finT, List.set_cons_zero, List.set_cons_succ, List.tail_cons, List.headD_cons]
  have HP10 := Lib.hid (show NN.PrAt v10 bP _ from below_has hb HP9.out (Has.lt HP9.out))
  have HS10 := Lib.hid (below_has hb HS9.out (Has.lt HS9.out))
  have HL10 := Lib.hid (show PlAt v10 bL ⟨xs, xp, xo⟩ from below_has hb HL9.out (Has.lt HL9.out))
  have B10 := Lib.hid (B9.out.trans (hb.mono B9.out.size))
  have HB10 := Lib.hid hb
  have hp2 : ({ p with tl := ({ t with ga := ga, gn := t.gn, gc := gc, ca := ca, cn := t.cn, cc := cc } : Tl).C } : NN.Pr).ok := tl_len _ HHA.out.2.2.1
  have hp1 : ({ p with tl := ({ t with ga := ga, gn := t.gn, gc := gc, ca := ca, cn := t.cn, cc := cc } : Tl).C } : NN.Pr).one := tl_one HTT.out HHA.out.2.1 ga t.gn gc ca t.cn cc
  have so : s.ok := HHA.out.2.2.2.2.2.2.2.2.2.1
  have so2 : ({ s with a := some ⟨g0, 0, none⟩, n := n, c := ct } : Sp).ok := so
  obtain ⟨p2, hp2e⟩ : ∃ p2 : NN.Pr, p2 = { p with tl := ({ t with ga := ga, gn := t.gn, gc := gc, ca := ca, cn := t.cn, cc := cc } : Tl).C } := ⟨_, rfl⟩
  obtain ⟨s2, hs2e⟩ : ∃ s2 : Sp, s2 = { s with a := some ⟨g0, 0, none⟩, n := n, c := ct } := ⟨_, rfl⟩
  have HP11 := Lib.hid (show NN.PrAt v10 bP p2 by rw [hp2e]; exact HP10.out)
  have HS11 := Lib.hid (show Has v10 bS (stA s2 sw) 63 by rw [hs2e]; exact HS10.out)
  rw [← hp2e] at hp2 hp1
  rw [← hs2e] at so2
  have HP2E := Lib.hid hp2e
  have HS2E := Lib.hid hs2e
  clear hb hp2e hs2e HP10 HS10 HP9 HS9 HL9
  go_wp2_with fail
  refine wp_tabG (fun b1 _ g w' => Below v10.heap.size v10 w' ∧ (b1 = true → v10.heap.size ≤ g ∧ SyAt w' g ⟨1, p2, s2, sw, s2, sw, some ⟨k, 0, none⟩, 0, M, size, .slice none 0 0⟩)) 9 99 [0, 1, 2, 4, 6, 8, 9] (fun g => [.agg (NN.prA p2), .agg (stA s2 sw), .agg (stA s2 sw), .pointer (some ⟨k, 0, none⟩), .agg (plA ⟨xs, xp, xo⟩), .int .i64 sec, .int .i64 M, .int .i64 size, .agg (syA ⟨1, p2, s2, sw, s2, sw, some ⟨k, 0, none⟩, 0, M, size, .slice none 0 0⟩), .pointer (some ⟨g, 0, none⟩), .pointer (some ⟨g, 0, none⟩), .int .i64 0]) 0 ⟨(Below.refl _ _).drew, fun h => by cases h⟩
    ⟨fun b1 _ g w' f1 _ hC => ?_, fun b1 _ g w' f1 _ hC => ?_, fun b1 _ g w' f1 _ hC => ?_, fun b1 _ g w' f1 _ hC => ?_, fun b1 _ g w' f1 _ hC => ?_, fun b1 _ g w' f1 _ hC => .val (ex_build_new hp2 so2 rfl rfl rfl rfl rfl rfl rfl rfl) hC, fun b1 _ g w' f1 _ hC => ?_, trivial⟩ ?_
  · exact .val (ex_load_pr rfl rfl (has_range0 (A := NN.prC p2) (below_has hC.1 HP11.out (Has.lt HP11.out))) hp2) hC
  · exact .val (ex_load_stt rfl rfl (has_range0 (A := stC s2 sw) (below_has hC.1 HS11.out (Has.lt HS11.out))) so2) hC
  · exact .val (ex_load_stt rfl rfl (has_range0 (A := stC s2 sw) (below_has hC.1 HS11.out (Has.lt HS11.out))) so2) hC
  · exact .val (ex_load_pl rfl rfl (PlAt.range (show PlAt w' bL ⟨xs, xp, xo⟩ from below_has hC.1 HL10.out (Has.lt HL10.out)))) hC
  · obtain rfl := f1.no (by kernel_rfl)
    exact .call ((most_at ⟨xs, xp, xo⟩ sec w').mono fun e w'' h => ⟨by rw [h.1, HMV9.out]; rfl, hC.1.trans (h.2.mono hC.1.size), fun h => by cases h⟩)
  · exact .new w'.heap.size [9, 10] rfl (ex_box_sy rfl rfl) ⟨hC.1.alloc hC.1.size _, fun _ => ⟨hC.1.size, Has.new _ _⟩⟩
  rintro g v11 ⟨hb, hA⟩
  obtain ⟨hg, hA⟩ := hA rfl
  simp only [finT, List.set_cons_zero, List.set_cons_succ, List.tail_cons, List.headD_cons]
  have B11 := Lib.hid (B10.out.trans (hb.mono B10.out.size))
  have B9' : Below v9.heap.size v9 v11 := HB10.out.trans (hb.mono HB10.out.size)
  have HR : SyW v11 (fun i => w.heap.size ≤ i ∧ i < v11.heap.size) g 1 M size.toNat H := by
    obtain ⟨hp, h1, ht, hgn, hcn, hgl, hcl, hmw, hcb, so, hq, hsw, hH⟩ := HHA.out
    have e1 := HBN.out
    have e2 := HK.out
    have e3 := HV37.out
    have e4 := HV9.out
    have e5 := HQ.out
    have e6 := HB10.out.size
    have e7 := hb.size
    have e8 := B10.out.size
    have e9 := most_range ⟨xs, xp, xo⟩ sec
    rw [HMV9.out] at e9
    have e10 := HT.out.lt
    have e11 := B3.out.size
    have hgl11 : g < v11.heap.size := Has.lt hA
    have KB := Kp.of (F := fun _ => False) B9'
    have hSS : Sup (fun i => (w.heap.size ≤ i ∧ i < v11.heap.size) ∧ i ≠ g ∧ i ≠ k) (fun w => SpIs w 0 s2 q) v11 := by
      rw [HS2E.out]
      exact (sup_spot (I := fun i => v7.heap.size ≤ i ∧ i < v9.heap.size) HSP9.out (fun i h1 h2 => ⟨h1, h2⟩)).on KB (fun _ _ h => h) |>.wide fun i hi => ⟨⟨by omega, by omega⟩, by omega, by omega⟩
    refine ⟨⟨fun i => (w.heap.size ≤ i ∧ i < v11.heap.size) ∧ i ≠ g ∧ i ≠ k, _, ⟨{ t with ga := ga, gn := t.gn, gc := gc, ca := ca, cn := t.cn, cc := cc }, gs, cs, c, q, q, k, .slice none 0 0, ⟨xs, xp, xo⟩, [], 0, []⟩, {
      has := hA
      ok := ⟨hp2, hp1, so2, so2, ⟨_, _, _, rfl⟩⟩
      tt := by rw [HP2E.out]
      tok := ht
      gn := hgn
      cn := hcn
      gl := hgl
      cl := hcl
      mw := hmw
      cb := hcb
      sb := hsw
      ab := hsw
      gates := (HSG9.out.on KB (fun _ _ h => h)).wide fun i hi => ⟨⟨by omega, by omega⟩, by omega, by omega⟩
      checks := (HSC9.out.on KB (fun _ _ h => h)).wide fun i hi => ⟨⟨by omega, by omega⟩, by omega, by omega⟩
      ss := hSS
      sa := hSS
      ls := ⟨hq.2.1, hq.2.2⟩
      la := ⟨hq.2.1, hq.2.2⟩
      bk := rfl
      book := HBK9.out.below B9'
      row := World.ownsRow_nil _ _ _ _
      lok := fun _ h => by cases h
      nb := fun h => h.2.1 rfl
      nk := fun h => h.2.2 rfl
      nbv := fun _ h => by cases h
      nv := fun _ h => by cases h
      d1 := by show g ≠ k; omega
      d2 := fun _ h => by cases h
      d3 := fun _ h => by cases h
      lt := fun i hi => hi.1.2 }, fun i hi => ?_, rfl, rfl, by show size = ((size.toNat : Nat) : Int); omega, rfl, by show (0 : Int) ≤ M; omega, Nat.zero_le _, hH, hH⟩, fun i hi => hi.2, e9, by omega, HT.out.below B11.out, fun i hi => by omega, fun i hi => by omega⟩
    rcases hi with hi | hi | hi | hi | hi
    · exact hi.1
    · subst hi; exact ⟨by omega, hgl11⟩
    · have : i = k := hi
      subst this
      have := HBK9.out.lt
      exact ⟨by omega, by omega⟩
    · cases hi
    · cases hi
  have HRR := Lib.hid HR
  clear HR hA hb B9'
  go_wp2_with fail
  go_ret2
  first
    | exact ⟨B11.out, .inr ⟨rfl, g, _, rfl, HRR.out, fun i hi => hi.1⟩⟩
    | exact ⟨B11.out, g, rfl, _, HRR.out, fun i hi => hi.1⟩
    | exact ⟨B11.out, g, _, rfl, HRR.out, fun i hi => hi.1⟩
end Go.Proofs.YthcebnfdapcllaaGreatDoor.An
