import Derived.Test.YtkclahiiijfllaaGreatDoorSBunQ35
set_option maxRecDepth 100000
set_option maxHeartbeats 4000000
namespace Go.Proofs.YtkclahiiijfllaaGreatDoor.Ar
open Go.RowKit Mem Sc
structure Ent where
 hs : List Hd
 up : Int
def entZ : Ent := ⟨[], -1⟩
def Ent.h (g : Hd) (e : Ent) : Hd := (g :: e.hs).getD e.hs.length hdZ
theorem h_app (g : Hd) (hs : List Hd) (h : Hd) (u : Int) : Ent.h g ⟨hs ++ [h], u⟩ = h := by
 unfold Ent.h
 rw [List.getD_eq_getElem?_getD, List.length_append, List.length_singleton, List.getElem?_cons_succ, List.getElem?_append_right (Nat.le_refl _), Nat.sub_self]
 rfl
def fnd (g : Hd) (M : List Ent) (id : List UInt8) : Option Nat := M.findIdx? fun e => (e.h g).id == id
structure Ru where
 p : NN.Pr
 g : Hd
 gs : List Gt
 cs : List Ck
 room : Nat
def spot (r : Ru) (e : Ent) : Ps := way r.p r.g e.hs e.hs.length
def why (r : Ru) (e : Ent) (h : Hd) (now : Int) : Int := chk r.p r.gs r.cs (spot r e) h now
def add (r : Ru) (M : List Ent) (h : Hd) (now : Int) : (Int × Int × Int) × List Ent :=
 if ¬ h.P then ((-1, 1, 8), M) else
 match fnd r.g M h.id with
 | some i => (((i : Nat), 0, 0), M)
 | none =>
  match fnd r.g M h.prev with
  | none => ((-1, 2, 5), M)
  | some j =>
   if ¬ why r (M.getD j entZ) h now = 0 then ((-1, why r (M.getD j entZ) h now, 8), M)
   else if r.room ≤ M.length then ((-1, 0, 6), M)
   else (((M.length : Nat), 0, 0), M ++ [⟨(M.getD j entZ).hs ++ [h], j⟩])
theorem qks_ {g : Hd} {M : List Ent} {id : List UInt8} {i : Nat} (h : fnd g M id = some i) : ∃ e, M[i]? = some e ∧ (e.h g).id = id := by
 obtain ⟨hi, h1, _⟩ := List.findIdx?_eq_some_iff_getElem.1 h
 exact ⟨M[i], List.getElem?_eq_getElem hi, by simpa using h1⟩
theorem qri_ {g : Hd} {M : List Ent} {id : List UInt8} (h : fnd g M id = none) {i : Nat} {e : Ent} (he : M[i]? = some e) : ¬ (e.h g).id = id := by
 have := List.findIdx?_eq_none_iff.1 h e (List.mem_of_getElem? he)
 simpa using this
structure Ok (r : Ru) (M : List Ent) : Prop where
 zero : M[0]? = some entZ
 up : ∀ (i : Nat) (e : Ent), 0 < i → M[i]? = some e → ∃ (j : Nat) (d : Ent) (h : Hd) (now : Int), j < i ∧ M[j]? = some d ∧ e = ⟨d.hs ++ [h], (j : Nat)⟩ ∧ h.ok ∧ h.P ∧ why r d h now = 0
 ids : ∀ (i j : Nat) (d e : Ent), M[i]? = some d → M[j]? = some e → (d.h r.g).id = (e.h r.g).id → i = j
theorem Ok.pos {r : Ru} {M : List Ent} (h : Ok r M) : 0 < M.length := (List.getElem?_eq_some_iff.1 h.zero).1
theorem Ok.one (r : Ru) : Ok r [entZ] := by
 refine ⟨rfl, fun i e h0 he => ?_, fun i j d e hd he _ => ?_⟩
 ·have := (List.getElem?_eq_some_iff.1 he).1
  simp at this; omega
 ·have h1 := (List.getElem?_eq_some_iff.1 hd).1
  have h2 := (List.getElem?_eq_some_iff.1 he).1
  simp at h1 h2; omega
theorem Ok.put {r : Ru} {M : List Ent} (hM : Ok r M) {h : Hd} (ho : h.ok) (hP : h.P) {now : Int} {j : Nat} (h1 : fnd r.g M h.id = none) (h2 : fnd r.g M h.prev = some j) (h3 : why r (M.getD j entZ) h now = 0) : Ok r (M ++ [⟨(M.getD j entZ).hs ++ [h], (j : Nat)⟩]) := by
 obtain ⟨d, hd, _⟩ := qks_ h2
 have hj := (List.getElem?_eq_some_iff.1 hd).1
 rw [show M.getD j entZ = d by rw [List.getD_eq_getElem?_getD, hd]; rfl] at h3 ⊢
 have old : ∀ {i e}, (M ++ [⟨d.hs ++ [h], (j : Nat)⟩])[i]? = some e → i < M.length ∧ M[i]? = some e ∨ i = M.length ∧ e = ⟨d.hs ++ [h], (j : Nat)⟩ := by
  intro i e he
  by_cases hi : i < M.length
  ·rw [List.getElem?_append_left hi] at he
   exact .inl ⟨hi, he⟩
  ·have hl := (List.getElem?_eq_some_iff.1 he).1
   simp at hl
   obtain rfl : i = M.length := by omega
   rw [List.getElem?_append_right (Nat.le_refl _), Nat.sub_self] at he
   exact .inr ⟨rfl, by simpa using he.symm⟩
 refine ⟨by rw [List.getElem?_append_left hM.pos]; exact hM.zero, fun i e h0 he => ?_, fun i k a b ha hb hab => ?_⟩
 ·rcases old he with ⟨hi, he⟩ | ⟨rfl, rfl⟩
  ·obtain ⟨k, a, x, t, q1, q2, q3⟩ := hM.up i e h0 he
   exact ⟨k, a, x, t, q1, by rw [List.getElem?_append_left (by omega)]; exact q2, q3⟩
  ·exact ⟨j, d, h, now, hj, by rw [List.getElem?_append_left hj]; exact hd, rfl, ho, hP, h3⟩
 ·rcases old ha with ⟨hi, ha⟩ | ⟨rfl, rfl⟩
  ·rcases old hb with ⟨hk, hb⟩ | ⟨rfl, rfl⟩
   ·exact hM.ids i k a b ha hb hab
   ·rw [h_app] at hab
    exact absurd hab (qri_ h1 ha)
  ·rcases old hb with ⟨hk, hb⟩ | ⟨rfl, rfl⟩
   ·rw [h_app] at hab
    exact absurd hab.symm (qri_ h1 hb)
   ·rfl
theorem Ok.add {r : Ru} {M : List Ent} (hM : Ok r M) {h : Hd} (ho : h.ok) (now : Int) : Ok r (Ar.add r M h now).2 := by
 unfold Ar.add
 by_cases hP : h.P
 ·rw [if_neg (fun hh => hh hP)]
  cases h1 : fnd r.g M h.id with
  | some i => exact hM
  | none =>
   cases h2 : fnd r.g M h.prev with
   | none => exact hM
   | some j =>
    simp only
    by_cases h3 : why r (M.getD j entZ) h now = 0
    ·rw [if_neg (fun hh => hh h3)]
     by_cases h4 : r.room ≤ M.length
     ·rw [if_pos h4]; exact hM
     ·rw [if_neg h4]
      exact hM.put ho hP h1 h2 h3
    ·rw [if_pos h3]; exact hM
 ·rw [if_pos hP]; exact hM
theorem qus_ {p : NN.Pr} {gs : List Gt} {cs : List Ck} {q : Ps} {h : Hd} {now : Int} (e : chk p gs cs q h now = 0) : h.P ∧ h.prev = q.prev ∧ h.bits = NN.nx p q.x h.time ∧ wkd p.lim h = true := by
 unfold chk at e
 by_cases h0 : h.P
 ·rw [if_neg (fun hh => hh h0)] at e
  by_cases h1 : h.prev = q.prev
  ·rw [if_neg (fun hh => hh h1)] at e
   by_cases h2 : h.bits = NN.nx p q.x h.time
   ·rw [if_neg (fun hh => hh h2)] at e
    by_cases h3 : wkd p.lim h = false
    ·rw [if_pos h3] at e; omega
    ·exact ⟨h0, h1, h2, by simpa using h3⟩
   ·rw [if_pos h2] at e; omega
  ·rw [if_pos h1] at e; omega
 ·rw [if_pos h0] at e; omega
theorem Ok.chain {r : Ru} {M : List Ent} (hM : Ok r M) : ∀ (i : Nat) (e : Ent), M[i]? = some e → e.hs.length ≤ i ∧ ∀ x ∈ e.hs, x.ok ∧ x.P ∧ wkd r.p.lim x = true := by
 intro i
 induction i using Nat.strongRecOn with
 | ind i ih =>
  intro e he
  by_cases h0 : 0 < i
  ·obtain ⟨j, d, h, now, h1, h2, rfl, h3, h4, h5⟩ := hM.up i e h0 he
   obtain ⟨h6, h7⟩ := ih j h1 d h2
   refine ⟨by simp; omega, fun x hx => ?_⟩
   rcases List.mem_append.1 hx with hx | hx
   ·exact h7 x hx
   ·obtain rfl : x = h := by simpa using hx
    exact ⟨h3, h4, (qus_ h5).2.2.2⟩
  ·obtain rfl : i = 0 := by omega
   obtain rfl : e = entZ := Option.some.inj (he.symm.trans hM.zero)
   exact ⟨Nat.le_refl _, fun x hx => by cases hx⟩
theorem Ok.head {r : Ru} {M : List Ent} (hM : Ok r M) (hg : r.g.ok) (hP : r.g.P) {i : Nat} {e : Ent} (he : M[i]? = some e) : (e.h r.g).ok ∧ (e.h r.g).P := by
 by_cases h0 : 0 < i
 ·obtain ⟨j, d, h, now, h1, h2, rfl, h3, h4, h5⟩ := hM.up i e h0 he
  rw [h_app]
  exact ⟨h3, h4⟩
 ·obtain rfl : i = 0 := by omega
  obtain rfl : e = entZ := Option.some.inj (he.symm.trans hM.zero)
  exact ⟨hg, hP⟩
theorem Ok.same {r : Ru} {M : List Ent} (hM : Ok r M) (hi : 2 ≤ r.p.ivl) {i : Nat} {e : Ent} (he : M[i]? = some e) (own : Int) : NN.rnx r.p (spot r e).x own = NN.nx r.p (spot r e).x own := by
 refine NN.qyn_ fun hs _ => ?_
 have hh := way_h r.p r.g e.hs e.hs.length (Nat.le_refl _)
 obtain ⟨hb, _, _⟩ := way_bt r.p r.g e.hs e.hs.length (Nat.le_refl _)
 obtain ⟨_, hc⟩ := hM.chain i e he
 show NN.tok (way r.p r.g e.hs e.hs.length).x.b r.p.lim = true
 rw [hb]
 rcases List.eq_nil_or_concat e.hs with h0 | ⟨l, x, h0⟩
 ·exfalso
  have hs' : NN.starts r.p.ivl (way r.p r.g e.hs e.hs.length).x.h = true := hs
  rw [hh, h0] at hs'
  unfold NN.starts at hs'
  rw [show ((([] : List Hd).length : Nat) : Int) + 1 = 1 by rfl, Int.tmod_eq_of_lt (by omega) (by omega)] at hs'
  simp at hs'
 ·have hx := hc x (by rw [h0]; simp)
  have ew := hx.2.2
  unfold wkd at ew
  rw [Bool.and_eq_true] at ew
  have e1 : (r.g :: e.hs).getD e.hs.length hdZ = x := by
   have := h_app r.g l x 0
   unfold Ent.h at this
   simp only at this
   rw [h0, List.concat_eq_append]
   exact this
  rw [e1]
  exact ew.1
theorem Ok.rwhy {r : Ru} {M : List Ent} (hM : Ok r M) (hi : 2 ≤ r.p.ivl) {i : Nat} {e : Ent} (he : M[i]? = some e) (h : Hd) (now : Int) (h2 : -9223372036854775808 ≤ now) (h3 : now ≤ 9223372036854775807) : rchk r.p r.gs r.cs (spot r e) h now = why r e h now :=
 qzr_ _ _ _ _ _ _ h2 h3 (hM.same hi he _)
theorem qut_ (r : Ru) (d : Ent) (h : Hd) (u : Int) : spot r ⟨d.hs ++ [h], u⟩ = bh r.p (spot r d) h := by
 unfold spot way
 simp only [List.take_length]
 rw [List.foldl_append]
 rfl
theorem qzt_ (r : Ru) (n : Nat) {M : List Ent} (h : Hd) (now : Int) (hl : M.length < r.room) : (Ar.add { r with room := n } (M.take n) h now).2 = (Ar.add r M h now).2.take n := by
 by_cases hlt : M.length < n
 ·rw [List.take_of_length_le (by omega : M.length ≤ n)]
  unfold Ar.add
  by_cases hP : h.P
  ·rw [if_neg (fun hh => hh hP), if_neg (fun hh => hh hP)]
   simp only
   cases fnd r.g M h.id with
   | some i => simp only; rw [List.take_of_length_le (by omega)]
   | none =>
    cases fnd r.g M h.prev with
    | none => simp only; rw [List.take_of_length_le (by omega)]
    | some j =>
     simp only
     rw [show why { r with room := n } (M.getD j entZ) h now = why r (M.getD j entZ) h now from rfl]
     by_cases h3 : why r (M.getD j entZ) h now = 0
     ·have h3' : ¬ ¬ why r (M.getD j entZ) h now = 0 := fun hh => hh h3
      rw [if_neg h3', if_neg h3', if_neg (by omega), if_neg (by omega)]
      simp only
      rw [List.take_of_length_le (by simp; omega)]
     ·rw [if_pos h3, if_pos h3]; simp only; rw [List.take_of_length_le (by omega)]
  ·rw [if_pos hP, if_pos hP]; simp only; rw [List.take_of_length_le (by omega)]
 ·have keep : ∀ (q : Ru) (L : List Ent), q.room ≤ L.length → (Ar.add q L h now).2 = L := by
   intro q L hq
   unfold Ar.add
   repeat' split
   all_goals first | rfl | (exfalso; omega)
  rw [keep _ _ (by simp; omega)]
  have more : ∃ X, (Ar.add r M h now).2 = M ++ X := by
   unfold Ar.add
   repeat' split
   all_goals first | exact ⟨[], (List.append_nil M).symm⟩ | exact ⟨_, rfl⟩
  obtain ⟨X, hX⟩ := more
  rw [hX, List.take_append_of_le_length (by omega)]
end Go.Proofs.YtkclahiiijfllaaGreatDoor.Ar
