import Derived.Test.YtgaocfhlagbkpaaGreatDoorSIdm
import Derived.Test.YtgaocfhlagbkpaaGreatDoorSBunQ37
set_option maxRecDepth 100000
set_option maxHeartbeats 4000000
namespace Go.Proofs.YtgaocfhlagbkpaaGreatDoor.NN
open Go.RowKit Rg2 An
end Go.Proofs.YtgaocfhlagbkpaaGreatDoor.NN
namespace Go.Proofs.YtgaocfhlagbkpaaGreatDoor.NN
open Go.RowKit Rg2 An
end Go.Proofs.YtgaocfhlagbkpaaGreatDoor.NN
namespace Go.Proofs.YtgaocfhlagbkpaaGreatDoor.An
open Go.RowKit Mem Sc NN.Rg2
section
variable {ρ : Operand → Value} {o : Oper} {w : World}
end
end Go.Proofs.YtgaocfhlagbkpaaGreatDoor.An
namespace Go.Proofs.YtgaocfhlagbkpaaGreatDoor.An
open Go.RowKit Mem Sc
open Ar (Ent Ru entZ Ok)
section
variable {w : World} {k : Nat} {e : En}
theorem EnAt.head (h : EnAt w k e) : w.rangeAt k 0 (hdC e.h) := by
 have := qbq_ (A := []) (cs := hdC e.h) (C := Lib.byteCells e.id ++ (.int .i64 e.up :: .int .i64 e.ht :: (NN.numC e.wk).toList)) (o := 0) (w := w) (b := k) (t := 68) h rfl
 exact this
theorem EnAt.tail (h : EnAt w k e) (ho : e.ok) : w.rangeAt k 100 (.int .i64 e.up :: .int .i64 e.ht :: (NN.numC e.wk).toList) := by
 have := qbq_ (A := hdC e.h ++ Lib.byteCells e.id) (cs := .int .i64 e.up :: .int .i64 e.ht :: (NN.numC e.wk).toList) (C := []) (o := 100) (w := w) (b := k) (t := 68) (by rw [List.append_nil, List.append_assoc]; exact h) (by simp [qj_ ho.1, qe_ ho.2])
 exact this
theorem EnAt.up (h : EnAt w k e) (ho : e.ok) {z : Int} (hz : Hid (e.up = z)) : w.cell? ⟨k, 100, none⟩ = some (.int .i64 z) := by rw [← hz.out]; exact h.tail ho 0 _ rfl
theorem EnAt.ht (h : EnAt w k e) (ho : e.ok) {z : Int} (hz : Hid (e.ht = z)) : w.cell? ⟨k, 101, none⟩ = some (.int .i64 z) := by rw [← hz.out]; exact h.tail ho 1 _ rfl
theorem qhu_ (w : World) (e : En) : EnAt ((w.alloc (.cells Tryz.zeroCells68 68)).setRow w.heap.size (enA e)) w.heap.size e := Has.row (qck_ w) _
end
theorem qex_ (w : World) (T : TypeId) (z cs : Array Value) : Below w.heap.size w ((w.alloc (.cells z T)).setRow w.heap.size cs) := below_setRow ((Below.refl _ _).alloc (Nat.le_refl _) _) (Nat.le_refl _) _
theorem add_len (r : Ru) (M : List Ent) (h : Hd) (now : Int) : (Ar.add r M h now).2.length ≤ M.length + 1 := by
 unfold Ar.add
 repeat' split
 all_goals simp
end Go.Proofs.YtgaocfhlagbkpaaGreatDoor.An
namespace Go.Proofs.YtgaocfhlagbkpaaGreatDoor.An
open Go.RowKit Mem Sc
open Ar (Ent Ru entZ Ok)
theorem qxi_ : ∃ i y, Tryz.prog.info? 3 = some i ∧ i.zero = some y ∧ i.size = 1 ∧ i.bytes = 8 ∧ y.cells.size = 1 := qkb_ (by kernel_rfl) (by kernel_rfl) (by kernel_rfl)
end Go.Proofs.YtgaocfhlagbkpaaGreatDoor.An
namespace Go.Proofs.YtgaocfhlagbkpaaGreatDoor.An
open Go.RowKit Mem Sc NN.Rg2
open Ar (Ent Ru entZ)
section
variable {w w' : World} {B : Nat} {F G : Nat → Prop} {b : Nat} {r : Ru} {M : List Ent}
end
end Go.Proofs.YtgaocfhlagbkpaaGreatDoor.An
namespace Go.Proofs.YtgaocfhlagbkpaaGreatDoor.An
open Go.RowKit Mem Sc NN.Rg2
open Ar (Ent Ru entZ)
end Go.Proofs.YtgaocfhlagbkpaaGreatDoor.An
namespace Go.Proofs.YtgaocfhlagbkpaaGreatDoor.An
open Go.RowKit Mem Sc NN.Rg2
open Ar (Ent Ru entZ Ok Row)
theorem qtu_ {w : World} {v : Value} {l : List Int} {base n : Nat} (h : w.ownsRow base 3 1 v n (l.map (Value.int .i64))) {k : Nat} {x : Int} (hx : l[k]? = some x) : ∃ g c, v = .slice (some ⟨g, 0, none⟩) n c ∧ w.cell? ⟨g, k, none⟩ = some (.int .i64 x) := by
 have hk := (List.getElem?_eq_some_iff.1 hx).1
 obtain ⟨hlen, ⟨rfl, hm0⟩ | ⟨g2, c, cur, rfl, q1, q2, q3, q4, q5, q6⟩⟩ := h
 ·rw [List.length_map] at hlen; omega
 ·refine ⟨g2, c, rfl, ?_⟩
  have e : (cur.toList.take (n * 1))[k]? = some (Value.int .i64 x) := by rw [q6, List.getElem?_map, hx]; rfl
  rw [Has.cell (show Has w g2 cur 3 from q2), ← Array.getElem?_toList]
  rw [List.getElem?_take] at e
  split at e
  ·exact e
  ·cases e
end Go.Proofs.YtgaocfhlagbkpaaGreatDoor.An
namespace Go.Proofs.YtgaocfhlagbkpaaGreatDoor.An
open Go.RowKit Mem Sc NN.Rg2
open Ar (Ent Ru entZ Ok)
end Go.Proofs.YtgaocfhlagbkpaaGreatDoor.An
namespace Go.Proofs.YtgaocfhlagbkpaaGreatDoor.An
open Go.RowKit Mem Sc NN.Rg2
end Go.Proofs.YtgaocfhlagbkpaaGreatDoor.An
namespace Go.Proofs.YtgaocfhlagbkpaaGreatDoor.An
open Go.RowKit Mem Sc NN.Rg2
open Ar (Ent Ru entZ Ok)
section
variable {w : World} {b : Nat} {p : NN.Pr} {vH vI vA vW : Value} {room : Nat}
end
section
variable {ρ : Operand → Value} {o : Oper} {w w' : World}
theorem qpc_ {T : TypeId} {x : Operand} {p : Addr} {u : Value} (ho : o.op = .load T x) (hx : ρ x = .pointer (some p)) (hl : (loadVar T p).run Tryz.prog w = .ok u w) : (execOp ρ o).run Tryz.prog w = .ok (.value u) w := by
 unfold execOp
 simp only [ho, hx, Instr.loadAt, Instr.sureAddr, Sem.run_bind, Sem.run_pure, Result.andThen_ok, hl]
theorem qfp_ {T : TypeId} {x y : Operand} {p : Addr} {u : Value} (ho : o.op = .store T x y) (hx : ρ x = .pointer (some p)) (hy : ρ y = u) (hl : (storeVar T p u).run Tryz.prog w = .ok () w') : (execOp ρ o).run Tryz.prog w = .ok .skip w' := by
 unfold execOp
 simp only [ho, hx, hy, Instr.storeAt, Instr.sureAddr, Sem.run_bind, Sem.run_pure, Result.andThen_ok, hl]
theorem qhv_ {Ts T : TypeId} {size bytes : Nat} (hu : Tryz.prog.underlying Ts = some (.slice T)) (hinf : ∃ i z, Tryz.prog.info? T = some i ∧ i.zero = some z ∧ i.size = size ∧ i.bytes = bytes ∧ z.cells.size = size) (h4 : 1001 * bytes ≤ 140737488355328) (h5 : 0 < size)
  {x y : Operand} {v : Value} {n g : Nat} {xs : List Value} {cs : Array Value} (hcs : cs.size = size) (hone : ∀ u ∈ cs.toList, u.oneCell' = true) (hx : ρ x = v) (hown : w.ownsRow 0 T size v n xs) (hy : ρ y = .slice (some ⟨g, 0, none⟩) 1 1) (hg : Has w g cs T) (hn : n ≤ 1000) :
  ∃ v' w', (∀ o : Oper, o.op = .call { callee := .builtin .append, args := #[x, y], argTypes := #[Ts, Ts] } → o.type = Ts → (execOp ρ o).run Tryz.prog w = .ok (.value v') w') ∧ w'.ownsRow 0 T size v' (n + 1) (xs ++ cs.toList) ∧ w.grownBy w' v.ownBlock ∧ (v'.ownBlock = v.ownBlock ∨ v'.ownBlock = some w.heap.size) := by
 obtain ⟨i, z, hi, hz, h1, h2, h3⟩ := hinf
 obtain ⟨v', w', hr, g1, g2, _, g4⟩ := run_append_own_at (P := Tryz.prog) w 0 Ts Ts T i z size bytes hu hi hz h1 h2 h3 h5 v n xs hown ⟨g, 0, none⟩ 1 1 cs.toList (by simp [hcs]) (fun j u hj => by
  rw [Addr.add_lit, Nat.zero_add, hg.cell j, ← Array.getElem?_toList]
  exact hj) hone (by unfold maxLen; omega) (Nat.le_trans (Nat.mul_le_mul_right _ (by omega)) h4) (Nat.zero_le _)
 refine ⟨v', w', fun o ho hty => ?_, g1, g2, g4⟩
 unfold execOp
 simp only [ho, hty, resolve, invoke, builtin, Sem.run_bind, Sem.run_pure, Result.andThen_ok, List.map_toArray, List.map_cons, List.map_nil, hx, hy, hr]
end
theorem qpd_ {w : World} {base : Nat} {T : TypeId} {size : Nat} {v : Value} {n : Nat} {xs : List Value} (h : w.ownsRow base T size v n xs) (hn : 0 < n) : ∃ g c, v = .slice (some ⟨g, 0, none⟩) n c := by
 rcases h.2 with ⟨_, h0⟩ | ⟨g, c, cur, rfl, _⟩
 ·omega
 ·exact ⟨g, c, rfl⟩
structure ApI (kb ka ks sb sa B : Nat) (T TA : TypeId) (size : Nat) (E : Array Value → Prop) (v : Value) (n : Nat) (xs : List Value) (b : Nat) (A : Value → Array Value) (l : Array Bool) (a : Act) (w : World) : Prop where
 bu : l.getD kb false = true → l.getD ka false = false → ∃ g cs, E cs ∧ a.eval (.tmp sb) = .slice (some ⟨g, 0, none⟩) 1 1 ∧ Has w g cs T
 ro : l.getD ka false = false → w.ownsRow 0 T size v n xs
 ap : l.getD ka false = true → l.getD ks false = false → ∃ v' cs, E cs ∧ a.eval (.tmp sa) = v' ∧ w.ownsRow 0 T size v' (n + 1) (xs ++ cs.toList) ∧ (v'.ownBlock = v.ownBlock ∨ ∃ g, v'.ownBlock = some g ∧ B ≤ g)
 ha : l.getD ks false = false → Has w b (A v) TA
 st : l.getD ks false = true → ∃ v' cs, E cs ∧ Has w b (A v') TA ∧ w.ownsRow 0 T size v' (n + 1) (xs ++ cs.toList) ∧ (v'.ownBlock = v.ownBlock ∨ ∃ g, v'.ownBlock = some g ∧ B ≤ g)
section
variable {kb ka ks sb sa B : Nat} {T TA : TypeId} {size : Nat} {E : Array Value → Prop} {v : Value} {n : Nat} {xs : List Value} {b : Nat} {A : Value → Array Value} {l : Array Bool} {a : Act} {w w' : World}
theorem ApI.zero (hl : ∀ i, l.getD i false = false) (hr : w.ownsRow 0 T size v n xs) (hA : Has w b (A v) TA) : ApI kb ka ks sb sa B T TA size E v n xs b A l a w :=
 ⟨fun h => (by rw [hl] at h; cases h), fun _ => hr, fun h => (by rw [hl] at h; cases h), fun _ => hA, fun h => (by rw [hl] at h; cases h)⟩
theorem ApI.keep (h : ApI kb ka ks sb sa B T TA size E v n xs b A l a w) {i : Nat} (hi : i < l.size) (h1 : i ≠ kb) (h2 : i ≠ ka) (h3 : i ≠ ks) (d : Option Tmp) (u : Value) (hd : d ≠ some sb) (hd2 : d ≠ some sa) : ApI kb ka ks sb sa B T TA size E v n xs b A (l.setIfInBounds i true) (a.put d u) w := by
 obtain ⟨p1, p2, p3, p4, p5⟩ := h
 constructor <;> simp only [qk_ l i kb hi h1, qk_ l i ka hi h2, qk_ l i ks hi h3, Act.eval_put (a := a) (v := u) (fun d' hdd e => hd (by rw [hdd]; cases e; rfl) : ∀ d', d = some d' → (Operand.tmp sb) = .tmp d' → False), Act.eval_put (a := a) (v := u) (fun d' hdd e => hd2 (by rw [hdd]; cases e; rfl) : ∀ d', d = some d' → (Operand.tmp sa) = .tmp d' → False)] <;> assumption
theorem ApI.on (h : ApI kb ka ks sb sa B T TA size E v n xs b A l a w) (hb : Below w.heap.size w w') : ApI kb ka ks sb sa B T TA size E v n xs b A l a w' := by
 have k := Kp.of (F := fun _ => False) hb
 refine ⟨fun h1 h2 => ?_, fun h1 => kp_row (h.ro h1) k (fun _ _ h => h), fun h1 h2 => ?_, fun h1 => k.has (h.ha h1) (fun h => h), fun h1 => ?_⟩
 ·obtain ⟨g, cs, e1, e2, e3⟩ := h.bu h1 h2
  exact ⟨g, cs, e1, e2, k.has e3 (fun h => h)⟩
 ·obtain ⟨v', cs, e1, e2, e3, e4⟩ := h.ap h1 h2
  exact ⟨v', cs, e1, e2, kp_row e3 k (fun _ _ h => h), e4⟩
 ·obtain ⟨v', cs, e1, e2, e3, e4⟩ := h.st h1
  exact ⟨v', cs, e1, k.has e2 (fun h => h), kp_row e3 k (fun _ _ h => h), e4⟩
theorem ApI.built (h : ApI kb ka ks sb sa B T TA size E v n xs b A l a w) (hi : kb < l.size) (ka0 : (l.setIfInBounds kb true).getD ka false = false) (ks0 : (l.setIfInBounds kb true).getD ks false = false) (h1 : kb ≠ ka) (h2 : kb ≠ ks) (hs : sb < a.tmps.size) {cs : Array Value} (hE : E cs) :
  ApI kb ka ks sb sa B T TA size E v n xs b A (l.setIfInBounds kb true) (a.put (some sb) (.slice (some ⟨w.heap.size, 0, none⟩) 1 1)) (w.alloc (.cells cs T)) := by
 have hb : Below w.heap.size w (w.alloc (.cells cs T)) := (Below.refl _ _).alloc (Nat.le_refl _) _
 have k := Kp.of (F := fun _ => False) hb
 exact ⟨fun _ _ => ⟨_, cs, hE, qbu_ a sb _ hs, Has.new _ _⟩, fun _ => kp_row (h.ro (by rw [← qk_ l kb ka hi h1]; exact ka0)) k (fun _ _ h => h), fun h => (by rw [ka0] at h; cases h), fun _ => k.has (h.ha (by rw [← qk_ l kb ks hi h2]; exact ks0)) (fun h => h), fun h => (by rw [ks0] at h; cases h)⟩
theorem ApI.appended (h : ApI kb ka ks sb sa B T TA size E v n xs b A l a w) (hi : ka < l.size) (ks0 : (l.setIfInBounds ka true).getD ks false = false) (h2 : ka ≠ ks) (hs : sa < a.tmps.size) {cs : Array Value} (hE : E cs) {v' : Value} (g1 : w'.ownsRow 0 T size v' (n + 1) (xs ++ cs.toList)) (g2 : w.grownBy w' v.ownBlock) (g3 : v'.ownBlock = v.ownBlock ∨ v'.ownBlock = some w.heap.size) (hB : B ≤ w.heap.size) (hb : v.ownBlock ≠ some b) :
  ApI kb ka ks sb sa B T TA size E v n xs b A (l.setIfInBounds ka true) (a.put (some sa) v') w' := by
 have ea : (l.setIfInBounds ka true).getD ka false = true := by rw [qs_ _ _ _ hi, if_pos rfl]
 have hA := h.ha (by rw [← qk_ l ka ks hi h2]; exact ks0)
 exact ⟨fun _ h => (by rw [ea] at h; cases h), fun h => (by rw [ea] at h; cases h), fun _ _ => ⟨v', cs, hE, qbu_ a sa _ hs, g1, g3.elim .inl (fun g => .inr ⟨_, g, hB⟩)⟩, fun _ => (g2.block b (Has.lt hA) (fun e => hb e.symm)).trans hA, fun h => (by rw [ks0] at h; cases h)⟩
theorem ApI.stored (hi : ks < l.size) (h2 : ks ≠ ka) (hka : l.getD ka false = true) {cs : Array Value} (hE : E cs) {v' : Value} (hA : Has w' b (A v') TA) (g1 : w'.ownsRow 0 T size v' (n + 1) (xs ++ cs.toList)) (g3 : v'.ownBlock = v.ownBlock ∨ ∃ g, v'.ownBlock = some g ∧ B ≤ g) :
  ApI kb ka ks sb sa B T TA size E v n xs b A (l.setIfInBounds ks true) (a.put none undef) w' := by
 have ea : (l.setIfInBounds ks true).getD ka false = true := by rw [qk_ l ks ka hi h2]; exact hka
 have es : (l.setIfInBounds ks true).getD ks false = true := by rw [qs_ _ _ _ hi, if_pos rfl]
 exact ⟨fun _ h => (by rw [ea] at h; cases h), fun h => (by rw [ea] at h; cases h), fun _ h => (by rw [es] at h; cases h), fun h => (by rw [es] at h; cases h), fun _ => ⟨v', cs, hE, hA, g1, g3⟩⟩
end
end Go.Proofs.YtgaocfhlagbkpaaGreatDoor.An
namespace Go.Proofs.YtgaocfhlagbkpaaGreatDoor.An
open Go.RowKit Mem Sc NN.Rg2
open Ar (Ent Ru entZ Ok)
theorem qpe_ {w : World} {ops : Array Oper} {rest : List Oper} {o : Oper} {a : Act} {Q : Exit → Act → World → Prop} (hgd : o.guard = none) (x y : Operand) (ho : o.op = .store 43 x y) (q : Addr) (ad : Option Addr) (n c : Nat) (u : Value) (hx : a.eval x = .pointer (some q)) (hy : a.eval y = .slice ad n c) (hf : w.frozen? q = false) (hc : w.cell? q = some u)
  (hk : wpList Tryz.prog ops Q rest (a.put o.dst undef) (w.setCell q (.slice ad n c))) : wpList Tryz.prog ops Q (o :: rest) a w :=
 wpList_plain hgd fun _ hK => by
  unfold Oper.wp
  rw [qfp_ ho hx hy (qeq_ hf hc)]
  exact hK _ _ hk
end Go.Proofs.YtgaocfhlagbkpaaGreatDoor.An
namespace Go.Proofs.YtgaocfhlagbkpaaGreatDoor.An
open Go.RowKit Mem Sc
open Ar (Ent Ru entZ Ok)
end Go.Proofs.YtgaocfhlagbkpaaGreatDoor.An
namespace Go.Proofs.YtgaocfhlagbkpaaGreatDoor.An
open Go.RowKit Mem Sc NN.Rg2
open Ar (Ent Ru entZ Ok)
section
variable {ρ : Operand → Value} {o : Oper} {w : World}
theorem efield2 (w : World) (g : Nat) : (Instr.fieldAt 68 (.pointer (some ⟨g, 0, none⟩)) 2).run Tryz.prog w = .ok (.pointer (some ⟨g, 100, none⟩)) w := by kernel_rfl
theorem efield3 (w : World) (g : Nat) : (Instr.fieldAt 68 (.pointer (some ⟨g, 0, none⟩)) 3).run Tryz.prog w = .ok (.pointer (some ⟨g, 101, none⟩)) w := by kernel_rfl
end
end Go.Proofs.YtgaocfhlagbkpaaGreatDoor.An
namespace Go.Proofs.YtgaocfhlagbkpaaGreatDoor.An
open Go.RowKit Mem Sc
open Ar (Ent Ru entZ Ok)
theorem qxj_ {w : World} {base : Nat} {v : Value} {e size n : Nat} {xs : List Value} (h : w.ownsRow base e size v n xs) : w.ownsRow 0 e size v n xs := by
 refine ⟨h.1, ?_⟩
 rcases h.2 with h | ⟨g, c, cur, rfl, h1, h2⟩
 ·exact .inl h
 ·exact .inr ⟨g, c, cur, rfl, Nat.zero_le _, h2⟩
theorem qxk_ (b g n c k : Nat) (s : Sp) (hs : s.ok) (hk : k < n) (hpos : 0 < s.n) (ts : List Int) (w : World) (hv : w.cell? ⟨b, 84, none⟩ = some (.slice (some ⟨g, 0, none⟩) n c)) (hr : w.rangeAt g (k * 144 + 106) (spC s))
  (KH : HK_ w 53 #[.pointer (some ⟨b, 0, none⟩), .int .i64 (k : Int)] (.bool true))
  (KC : Hid (∀ w', Below w.heap.size w w' → Calls Tryz.prog 54 #[.slice s.a s.n s.c] w' fun e w'' => ∃ v', e = .returned v' ∧ w''.ownsRow w'.heap.size 3 1 v' s.n (ts.map (Value.int .i64)) ∧ Below w'.heap.size w' w'')) :
  Calls Tryz.prog 29 #[.pointer (some ⟨b, 0, none⟩), .int .i64 (k : Int)] w fun r w' => ∃ g' c', r = .returned (.tuple #[.agg (spA ⟨s.x, s.prev, some ⟨g', 0, none⟩, s.n, c'⟩), .bool true]) ∧ w'.ownsRow 0 3 1 (.slice (some ⟨g', 0, none⟩) s.n c') s.n (ts.map (Value.int .i64)) ∧ w.heap.size ≤ g' ∧ Below w.heap.size w w' := by
 have z0 := qac_ spZ_ok
 have z1 := qac_ hs
 have z2 := qba_ hs
 go_enter Tryz.func29, Tryz.ntmps29
 go_upto_region 1 with fail
 generalize hw0 : World.alloc _ _ = v0
 have hB : Below w.heap.size w v0 := bl_ hw0
 have hR : SpAt v0 w.heap.size spZ := by rw [← hw0]; exact qbg_ w
 clear hw0
 obtain ⟨bR, hbR⟩ : ∃ x, x = w.heap.size := ⟨_, rfl⟩
 rw [← hbR] at hR ⊢
 have HBR := h_ hbR
 clear hbR
 go_wp2_with fail
 refine (KH.out _ hB).mono ?_
 rintro r v1 ⟨rfl, hb⟩
 replace hR := hR.on hb
 replace hB := tb_ hB hb
 clear hb
 have hv1 := (hB.cell (p := ⟨b, 84, none⟩) (block_lt_of_cell hv)).trans hv
 have hr1 : v1.rangeAt g (k * 144 + 106) (spC s) := qao_ hr hB (by omega)
 clear hv hr
 go_upto_region 4 with (first
  | (with_reducible refine qcq_ rfl _ rfl g (k * 144 + 106) rfl s hr1 z2 ?_)
  | (with_reducible refine qbl_ rfl _ _ rfl _ _ s rfl rfl rfl z1 (qbg_ v1) z0 ?_))
 generalize hw4 : World.setRow _ _ _ = v2
 have hb2 : Below v1.heap.size v1 v2 := bw_ hw4
 have hX : SpAt v2 v1.heap.size s := by rw [← hw4]; exact Has.row (qbg_ v1) _
 have hlt := hR.lt
 replace hR := hR.on hb2
 replace hB := tb_ hB hb2
 obtain ⟨bX, hbX⟩ : ∃ x, x = v1.heap.size := ⟨_, rfl⟩
 rw [← hbX] at hX hlt ⊢
 have HNX := h_ hlt
 clear hw4 hb2 hv1 hr1 hbX hlt
 have c37 := hX.sl hs
 go_wp2_with fail
 refine (KC.out _ hB).mono ?_
 rintro r v3 ⟨v', rfl, ho, hb⟩
 obtain ⟨g', c', rfl⟩ := qpd_ ho hpos
 have hg' := (row_lt ho (i := g') rfl).2
 have HG : Hid (w.heap.size ≤ g') := h_ (Nat.le_trans hB.size hg')
 have HNG : Hid (bX < g' ∧ bR < g') := h_ ⟨Nat.lt_of_lt_of_le hX.lt hg', Nat.lt_of_lt_of_le hR.lt hg'⟩
 replace hR := hR.on hb
 replace hX := hX.on hb
 replace hB := tb_ hB hb
 have c37 := hX.sl hs
 have f37 := SpAt.free hX 37
 have HO := h_ (qxj_ ho)
 clear hb ho hg'
 go_upto_region 5 with (with_reducible refine qpe_ rfl _ _ rfl ⟨bX, 37, none⟩ _ _ _ _ rfl rfl f37 c37 ?_)
 simp only [Act.put]
 have hX4 := hX.setS hs (some ⟨g', 0, none⟩) s.n c'
 have hR4 := hR.other ⟨bX, 37, none⟩ (.slice (some ⟨g', 0, none⟩) s.n c') (fun e => by have := HNX.out; simp only at e; omega)
 have hB4 : Below w.heap.size w (v3.setCell ⟨bX, 37, none⟩ (.slice (some ⟨g', 0, none⟩) s.n c')) := qgj_ hB _ _ (by have := HNX.out; have := HBR.out; simp only; omega)
 have hk4 : Kp (fun i => i = bX) v3 (v3.setCell ⟨bX, 37, none⟩ (.slice (some ⟨g', 0, none⟩) s.n c')) := Kp.gb (qco_ v3 bX 37 _) (fun k hk => (Option.some.inj hk).symm)
 have HO4 := h_ (kp_row HO.out hk4 (fun i hi e => by have h1 : g' = i := Option.some.inj hi; have := HNG.out.1; omega))
 generalize World.setCell _ _ _ = v4 at *
 have z4 : (spA ⟨s.x, s.prev, some ⟨g', 0, none⟩, s.n, c'⟩).size = 38 := qac_ hs
 clear hX hR hB hk4 HO c37 f37
 go_wp2_with (first
  | (with_reducible refine qtf_ rfl _ rfl _ rfl hX4 z4 ?_)
  | (with_reducible refine qbl_ rfl _ _ rfl _ _ ⟨s.x, s.prev, some ⟨g', 0, none⟩, s.n, c'⟩ rfl rfl rfl z4 hR4 z0 ?_))
 have hk5 : Kp (fun i => i = bR) v4 (v4.setRow bR (spA ⟨s.x, s.prev, some ⟨g', 0, none⟩, s.n, c'⟩)) := ⟨rfl, rfl, rfl, by rw [setRow_size]; exact Nat.le_refl _, fun k _ hn => setRow_other v4 bR k _ hn⟩
 refine bodyPost_ret (qdn_ Tryz.results29 _ _ _ rfl rfl (Has.row hR4 _) z4) rfl ⟨g', c', rfl, kp_row HO4.out hk5 (fun i hi e => ?_), HG.out, below_setRow hB4 (by have := HBR.out; omega) _⟩
 have h1 : g' = i := Option.some.inj hi
 have := HNG.out.2
 omega
theorem qsf_ (p : Value) (k : Int) (w : World) (KH : HK_ w 53 #[p, .int .i64 k] (.bool false)) :
  Ca_ 29 #[p, .int .i64 k] w (.tuple #[.agg (spA spZ), .bool false]) := by
 have z0 := qac_ spZ_ok
 go_enter Tryz.func29, Tryz.ntmps29
 go_upto_region 1 with fail
 generalize hw0 : World.alloc _ _ = v0
 have hB : Below w.heap.size w v0 := bl_ hw0
 have hR : SpAt v0 w.heap.size spZ := by rw [← hw0]; exact qbg_ w
 clear hw0
 obtain ⟨bR, hbR⟩ : ∃ x, x = w.heap.size := ⟨_, rfl⟩
 rw [← hbR] at hR ⊢
 have HBR : Hid (w.heap.size ≤ bR) := h_ (by omega)
 clear hbR
 go_wp2_with fail
 refine (KH.out _ hB).mono ?_
 rintro e v1 ⟨rfl, hb⟩
 replace hR := hR.on hb
 replace hB := tb_ hB hb
 clear hb
 go_wp2_with (with_reducible refine qbl_ rfl _ _ rfl _ _ spZ rfl rfl rfl z0 hR z0 ?_)
 refine bodyPost_ret (qdn_ Tryz.results29 _ _ _ rfl rfl (Has.row hR _) z0) rfl ⟨rfl, below_setRow hB HBR.out _⟩
theorem qxl_ {w : World} {F : Nat → Prop} {b : Nat} {r : Ru} {M : List Ent} (h : ArS w F b r M) {i : Nat} {e : Ent} (he : M[i]? = some e) :
  Calls Tryz.prog 29 #[.pointer (some ⟨b, 0, none⟩), .int .i64 (i : Int)] w fun x w' => ∃ g' c', x = .returned (.tuple #[.agg (spA ⟨(Ar.spot r e).x, (Ar.spot r e).prev, some ⟨g', 0, none⟩, (Ar.spot r e).ts.length, c'⟩), .bool true]) ∧ w'.ownsRow 0 3 1 (.slice (some ⟨g', 0, none⟩) (Ar.spot r e).ts.length c') (Ar.spot r e).ts.length ((Ar.spot r e).ts.map (Value.int .i64)) ∧ w.heap.size ≤ g' ∧ Below w.heap.size w w' := by
 have hi := (List.getElem?_eq_some_iff.1 he).1
 have KH : HK_ w 53 #[.pointer (some ⟨b, 0, none⟩), .int .i64 (i : Nat)] (.bool true) := h_ fun w' hb => has_at (h.below hb) _ true (by rw [Bool.and_eq_true]; exact ⟨decide_eq_true (by omega), decide_eq_true (by omega)⟩)
 obtain ⟨_, I, p, t, v, mb, L, h1, h2, h3, h4⟩ := h
 obtain ⟨s, hs⟩ := h3.at he
 obtain ⟨g, c, rfl, hg, hr⟩ := h1.range hs
 have hx := h1.good _ (List.mem_of_getElem? hs)
 have hsp := (h1.spots _ (List.mem_of_getElem? hs)).now
 have q3 := way_ts r.p r.g e.hs e.hs.length (Nat.le_refl _)
 have q4 : 0 < (Ar.spot r e).ts.length ∧ (Ar.spot r e).ts.length ≤ 11 := by show 0 < (way r.p r.g e.hs e.hs.length).ts.length ∧ (way r.p r.g e.hs e.hs.length).ts.length ≤ 11; rw [q3]; omega
 generalize Ar.spot r e = q at *
 obtain ⟨sx, sv, sa, sn, sc⟩ := s
 obtain ⟨e1, e2, e3, e4, ⟨b2, e5⟩, e6⟩ := hsp
 simp only at e1 e2 e3 e4 e5 e6 hx hr
 subst e1 e2 e3 e5
 refine qxk_ b g L.length c i ⟨q.x, q.prev, some ⟨b2, 0, none⟩, q.ts.length, sc⟩ hx.2 (by rw [h3.length]; exact hi) q4.1 q.ts w (ar84 h1.has h1.pok) (qgh_ hx.1 hr) KH (h_ fun w' hb => ?_)
 obtain ⟨b3, off, e7, _, h8, hc⟩ := e6 q4.1
 cases e7
 have hc' : ∀ j, j < q.ts.length → w'.cell? ⟨b2, 0 + j, none⟩ = some (.int .i64 (q.ts.getD j 0)) := fun j hj => (hb.cell (p := ⟨b2, 0 + j, none⟩) h8).trans (hc j hj)
 refine (Tryz.slices_Clone_int b2 0 q.ts.length sc q.ts w' (Nat.le_refl _) (by omega) hc').mono ?_
 rintro x w'' ⟨v', rfl, ho, _, hb2⟩
 rw [List.take_of_length_le (Nat.le_refl _)] at ho
 exact ⟨v', rfl, ho, hb2⟩
end Go.Proofs.YtgaocfhlagbkpaaGreatDoor.An
namespace Go.Proofs.YtgaocfhlagbkpaaGreatDoor.An
open Go.RowKit Mem Sc
open Ar (Ent Ru entZ Ok Lp)
def trA (ab : Nat) (lv : Value) : Array Value := #[.pointer (some ⟨ab, 0, none⟩), lv]
def TrS (w : World) (F : Nat → Prop) (b : Nat) (r : Ru) (M : List Ent) (ls : List Int) : Prop :=
 (∀ i, F i → i < w.heap.size) ∧ ∃ Fa ab lv, Has w b (trA ab lv) 87 ∧ ArS w Fa ab r M ∧ w.ownsRow 0 3 1 lv ls.length (ls.map (Value.int .i64)) ∧ Lp M ls ∧ F b ∧ (∀ i, Fa i → F i) ∧ (∀ i, lv.ownBlock = some i → F i) ∧ ¬ Fa b ∧ ∀ i, lv.ownBlock = some i → ¬ Fa i
section
variable {w w' : World} {F G : Nat → Prop} {b : Nat} {r : Ru} {M : List Ent} {ls : List Int}
theorem TrS.on (h : TrS w F b r M ls) (k : Kp G w w') (hG : ∀ i, F i → ¬ G i) : TrS w' F b r M ls := by
 obtain ⟨hl, Fa, ab, lv, h1, h2, h3, h4, h5, h6, h7, h8, h9⟩ := h
 exact ⟨fun i hi => Nat.lt_of_lt_of_le (hl i hi) k.size, Fa, ab, lv, k.has h1 (hG b h5), h2.on k fun i hi => hG i (h6 i hi), kp_row h3 k fun i hi => hG i (h7 i hi), h4, h5, h6, h7, h8, h9⟩
theorem TrS.below (h : TrS w F b r M ls) (hb : Below w.heap.size w w') : TrS w' F b r M ls := h.on (G := fun _ => False) (Kp.of hb) fun _ _ hf => hf
theorem TrS.wide (h : TrS w F b r M ls) (hF : ∀ i, F i → G i) (hG : ∀ i, G i → i < w.heap.size) : TrS w G b r M ls := by
 obtain ⟨_, Fa, ab, lv, h1, h2, h3, h4, h5, h6, h7, h8, h9⟩ := h
 exact ⟨hG, Fa, ab, lv, h1, h2, h3, h4, hF b h5, fun i hi => hF i (h6 i hi), fun i hi => hF i (h7 i hi), h8, h9⟩
end
end Go.Proofs.YtgaocfhlagbkpaaGreatDoor.An
namespace Go.Proofs.YtgaocfhlagbkpaaGreatDoor.An
open Go.RowKit Mem Sc
open Ar (Ent Ru entZ Ok)
def OwnG (B : Nat) (w : World) (a : Option Addr) (gs : List Gt) : Prop := GatesAt w a gs ∧ (0 < gs.length → ∃ g cur, a = some ⟨g, 0, none⟩ ∧ B ≤ g ∧ Has w g cur 110)
theorem qjb_ (a : Option Addr) (n c : Nat) (L : List Gt) (hn : n = L.length) (hl : n ≤ 1000) (w : World) (hA : GatesAt w a L) :
  Calls Tryz.prog 69 #[.slice a n c] w fun e w' => ∃ a' c', e = .returned (.slice a' n c') ∧ OwnG w.heap.size w' a' L ∧ Below w.heap.size w w' := by
 by_cases h0 : 0 < L.length
 ·obtain ⟨ab, ao, rfl, hlt, hc⟩ := hA h0
  have hlen : ∀ x ∈ L, (gtC x).length = 2 := (fun _ _ => rfl)
  refine (qbm_ ⟨ab, ao, none⟩ n c L hn hl w (fun j u hj => ?_)).mono ?_
  ·rw [Addr.add_lit]
   refine qem_ gtC 2 (by decide) L hlen (fun i x hi => ?_) j u hj
   obtain ⟨h1, h2⟩ := List.getElem?_eq_some_iff.1 hi
   rw [← h2]; exact hc i h1
  ·rintro e w' ⟨v', rfl, ho, hb⟩
   obtain ⟨a', c', rfl, _, h3⟩ := qel_ gtC 2 L hlen ho hn
   obtain ⟨g, rfl, h4, h5, h6⟩ := h3 (by omega)
   obtain ⟨cur, hcur⟩ := qhq_ ho (i := g) rfl
   exact ⟨_, c', rfl, ⟨fun _ => ⟨g, 0, rfl, h5, fun i hi => by rw [Nat.zero_add]; exact h6 i _ (List.getElem?_eq_getElem hi)⟩, fun _ => ⟨g, cur, rfl, h4, hcur⟩⟩, hb⟩
 ·refine (qfo_ a n c L hn hl w hA).mono ?_
  rintro e w' ⟨a', c', rfl, ⟨h1, _⟩, hb⟩
  exact ⟨a', c', rfl, ⟨h1, fun h => absurd h h0⟩, hb⟩
theorem qsg_ {p : NN.Pr} (h1 : p.one) {t : Tl} (tt : p.tl = t.C) (ga : Option Addr) (gc : Nat) (ca : Option Addr) (cc : Nat) : (moved p t ga gc ca cc).one := by
 intro v hv
 have hv' : v ∈ (Value.slice ga t.gn gc :: Value.slice ca t.cn cc :: (t.nn ++ hdC t.g)) := hv
 simp only [List.mem_cons] at hv'
 rcases hv' with rfl | rfl | hv'
 ·rfl
 ·rfl
 ·exact h1 v (by rw [tt]; unfold Tl.C; simp only [List.mem_cons]; exact .inr (.inr hv'))
theorem qxm_ (b : Nat) (p : NN.Pr) (hp : p.ok) (room : Nat) (v : Value) (mb : Nat) (X : World → NN.Pr → Prop) (w : World) (hA : Has w b (arA p room v mb) 93)
  (KC : Hid (∀ w', Below w.heap.size w w' → w.heap.size < w'.heap.size → Calls Tryz.prog 43 #[.agg (NN.prA p)] w' fun e w'' => ∃ p', e = .returned (.agg (NN.prA p')) ∧ (p'.ok ∧ p'.one) ∧ X w'' p' ∧ Below w'.heap.size w' w'')) :
  Calls Tryz.prog 56 #[.pointer (some ⟨b, 0, none⟩)] w fun e w' => ∃ p', e = .returned (.agg (NN.prA p')) ∧ (p'.ok ∧ p'.one) ∧ (∃ w1, X w1 p' ∧ Kp (fun i => i = w.heap.size) w1 w') ∧ Below w.heap.size w w' := by
 have zp := qat_ hp
 have zZ := NN.qal_ prZ_ok
 have HA := h_ hA
 go_enter Tryz.func56, Tryz.ntmps56
 go_upto_region 1 with fail
 generalize hw0 : World.alloc _ _ = v0
 have hB : Below w.heap.size w v0 := bl_ hw0
 have hR : NN.PrAt v0 w.heap.size prZ := by rw [← hw0]; exact qtq_ w
 clear hw0
 obtain ⟨bR, hbR⟩ : ∃ x, x = w.heap.size := ⟨_, rfl⟩
 rw [← hbR] at hR ⊢
 have HBR := h_ hbR
 clear hbR hA
 have rp := ar_pr (qd_ hB HA.out HA.out.lt)
 have hlt : w.heap.size < v0.heap.size := by rw [← HBR.out]; exact NN.Has.lt hR
 go_wp2_with (with_reducible refine qlk_ rfl _ rfl b 0 rfl p rp zp ?_)
 refine (KC.out _ hB hlt).mono ?_
 rintro e v1 ⟨q, rfl, ⟨q1, q2⟩, hX, hb⟩
 have z5 := NN.qal_ q1
 replace hR := NN.PrAt.on hR hb
 replace hB := tb_ hB hb
 have HX := h_ hX
 clear hb rp hlt hX
 go_wp2_with (with_reducible refine qiw_ rfl _ _ rfl _ _ q q2 rfl rfl rfl z5 hR zZ ?_)
 have hk5 : Kp (fun i => i = bR) v1 (v1.setRow bR (NN.prA q)) := ⟨rfl, rfl, rfl, by rw [setRow_size]; exact Nat.le_refl _, fun k _ hn => setRow_other v1 bR k _ hn⟩
 exact bodyPost_ret (qeu_ Tryz.results56 _ _ rfl (Has.row hR _) z5) rfl ⟨q, rfl, ⟨q1, q2⟩, ⟨v1, HX.out, by rw [← HBR.out]; exact hk5⟩, below_setRow hB (by rw [HBR.out]; exact Nat.le_refl _) _⟩
structure Told (w : World) (B : Nat) (r : Ru) (p : NN.Pr) (t : Tl) : Prop where
 tt : p.tl = t.C
 ok : t.ok
 one : p.one
 gn : t.gn = r.gs.length
 cn : t.cn = r.cs.length
 al : Alike p t r
 own : OwnG B w t.ga r.gs
theorem qsh_ {w : World} {F : Nat → Prop} {b : Nat} {r : Ru} {M : List Ent} (h : ArS w F b r M) (hgl : r.gs.length ≤ 1000) (hcl : r.cs.length ≤ 1000) :
  Calls Tryz.prog 56 #[.pointer (some ⟨b, 0, none⟩)] w fun e w' => ∃ p t, e = .returned (.agg (NN.prA p)) ∧ p.ok ∧ Told w' w.heap.size r p t ∧ Below w.heap.size w w' := by
 obtain ⟨_, I, p, t, v, mb, L, h1, h2, h3, h4⟩ := h
 refine (qxm_ b p h1.pok r.room v mb (fun w1 p' => ∃ t', p'.tl = t'.C ∧ t'.ok ∧ t'.gn = r.gs.length ∧ t'.cn = r.cs.length ∧ Alike p' t' r ∧ OwnG (w.heap.size + 1) w1 t'.ga r.gs) w h1.has (h_ fun w' hb hlt => ?_)).mono ?_
 ·have hk := h1.below hb
  refine (qox_ p hk.pok hk.one t hk.tt hk.tok (fun w1 a => OwnG (w'.heap.size + 2) w1 a r.gs) (fun _ _ => True) w' (h_ fun w2 hb2 hs2 => ?_) (h_ fun w2 hb2 hs2 => ?_)).mono ?_
  ·refine (qjb_ t.ga t.gn t.gc r.gs hk.gn (by rw [hk.gn]; exact hgl) w2 (hk.gates.now.below hb2)).mono ?_
   rintro e w3 ⟨a', c', rfl, ⟨g1, g2⟩, hb3⟩
   exact ⟨a', c', rfl, ⟨g1, fun h0 => by obtain ⟨g, cur, e1, e2, e3⟩ := g2 h0; exact ⟨g, cur, e1, Nat.le_trans hs2 e2, e3⟩⟩, hb3⟩
  ·refine (qet_ t.ca t.cn t.cc r.cs hk.cn (by rw [hk.cn]; exact hcl) w2 (hk.checks.now.below hb2)).mono ?_
   rintro e w3 ⟨a', c', rfl, _, hb3⟩
   exact ⟨a', c', rfl, trivial, hb3⟩
  ·rintro e w2 ⟨ga, gc, ca, cc, rfl, ⟨w3, ⟨g1, g2⟩, g3⟩, _, hb2⟩
   refine ⟨moved p t ga gc ca cc, rfl, ⟨qiv_ p t hk.tok ga gc ca cc, qsg_ hk.one hk.tt ga gc ca cc⟩, ⟨movedT t ga gc ca cc, rfl, hk.tok, hk.gn, hk.cn, ⟨h2.1, h2.2.1, h2.2.2.1, h2.2.2.2.1, h2.2.2.2.2.1, h2.2.2.2.2.2⟩, ?_, fun h0 => ?_⟩, hb2⟩
   ·refine (Sup.on (qgf_ (I := fun i => w'.heap.size + 2 ≤ i) g1 (fun h0 ad e => ?_)) g3 (fun i hi h => ?_)).now
    ·obtain ⟨g, cur, e1, e2, e3⟩ := g2 h0
     rw [e1] at e
     cases e
     exact e2
    ·rcases h with h | h <;> omega
   ·obtain ⟨g, cur, e1, e2, e3⟩ := g2 h0
    exact ⟨g, cur, e1, by omega, g3.has e3 (fun h => by rcases h with h | h <;> omega)⟩
 ·rintro e w' ⟨p', rfl, ⟨hp', hp1⟩, ⟨w1, ⟨t', a1, a2, a3, a4, a5, a6, a7⟩, hk⟩, hb⟩
  refine ⟨p', t', rfl, hp', ⟨a1, a2, hp1, a3, a4, a5, ?_, fun h0 => ?_⟩, hb⟩
  ·refine (Sup.on (qgf_ (I := fun i => w.heap.size + 1 ≤ i) a6 (fun h0 ad e => ?_)) hk (fun i hi h => by omega)).now
   obtain ⟨g, cur, e1, e2, e3⟩ := a7 h0
   rw [e1] at e
   cases e
   exact e2
  ·obtain ⟨g, cur, e1, e2, e3⟩ := a7 h0
   exact ⟨g, cur, e1, by omega, hk.has e3 (fun h => by omega)⟩
end Go.Proofs.YtgaocfhlagbkpaaGreatDoor.An
namespace Go.Proofs.YtgaocfhlagbkpaaGreatDoor.An
open Go.RowKit Mem Sc NN.Rg2
open Ar (Ent Ru entZ Ok)
theorem pt_neq (x : NN.Pt) (w : World) : (binOp .neq 72 (.agg (NN.ptA x)) (.agg (NN.ptA x))).run Tryz.prog w = .ok (.bool false) w := by
 have hS : Tryz.prog.underlying 72 = some (.struct (Tryz.prog.fieldsOf 72)) := by kernel_rfl
 rw [run_neq_struct, show (10000 : Nat) = 9999 + 1 from rfl, run_equalIn_agg w 9999 72 _ _ hS (by kernel_rfl)]
 simp only [Program.fieldsOf, Tryz.underlying72]
 have p0 := qy_ (NN.ptA x) 0 (.int .i64 x.h) rfl
 have p1 := qy_ (NN.ptA x) 1 (.int .i64 x.b) rfl
 have p2 := qy_ (NN.ptA x) 2 (.int .i64 x.t) rfl
 have p3 := qy_ (NN.ptA x) 3 (.int .i64 x.f) rfl
 have p4 := qy_ (NN.ptA x) 4 (.int .i64 x.r) rfl
 have q := fun x y => eq_int x y 9998
 simp only [Op.eqFields, ne_eq, String.reduceEq, not_false_eq_true, if_true, Sem.run_bind, Sem.run_ite, Sem.run_pure, Result.andThen_ok, p0, p1, p2, p3, p4, q, beq_self_eq_true, Bool.not_true, Bool.false_eq_true, if_false]
theorem qxn_ : Tryz.prog.eqGuardType Tryz.prog.depth 72 = false := by kernel_rfl
section
variable {ops : Array Oper} {rest : List Oper} {o : Oper} {a : Act} {w : World} {Q : Exit → Act → World → Prop}
theorem qpf_ (hw : Region.wanted o (yielded ops a.tmps) = true) (x : Operand) (ho : o.op = .load 72 x) (g : Nat) (hx : a.eval x = .pointer (some ⟨g, 0, none⟩)) (y : NN.Pt) (hg : w.rangeAt g 0 (NN.ptA y).toList)
  (hk : wpList Tryz.prog ops Q rest (a.put o.dst (.agg (NN.ptA y))) w) : wpList Tryz.prog ops Q (o :: rest) a w :=
 BigFrame.wpList_want hw fun _ hK => by
  unfold Oper.wp execOp
  simp only [ho, hx, Sem.run_bind, run_pt w g y hg, Result.andThen_ok]
  exact hK _ _ hk
theorem ptneq_g (hw : Region.wanted o (yielded ops a.tmps) = true) (t' : TypeId) (x y : Operand) (ho : o.op = .binOp .neq 72 x y t') (z : NN.Pt) (hx : a.eval x = .agg (NN.ptA z)) (hy : a.eval y = .agg (NN.ptA z))
  (hk : wpList Tryz.prog ops Q rest (a.put o.dst (.bool false)) w) : wpList Tryz.prog ops Q (o :: rest) a w :=
 BigFrame.wpList_want hw fun _ hK => by
  unfold Oper.wp execOp
  simp only [ho, hx, hy, Sem.run_bind, Sem.run_pure, run_eqGuard_agg w .neq 72 x y _ _ qxn_, Result.andThen_ok, pt_neq z]
  exact hK _ _ hk
end
section
variable {C : World → Prop} {a : Act} {o : Oper} {K : Act → Prop}
end
end Go.Proofs.YtgaocfhlagbkpaaGreatDoor.An
namespace Go.Proofs.YtgaocfhlagbkpaaGreatDoor.An
open Go.RowKit Mem Sc
open Ar (Ent Ru entZ Ok Lp hgt clr)
set_option maxRecDepth 100000
theorem qxo_ (m : Nat) (hm : m ≤ 9223372036854775807) : ∃ k : Int, IntKind.i64.wrap ((m : Int) - 1) = k ∧ bits .and .i64 (m : Int) k = ((clr m : Nat) : Int) := by
 refine ⟨_, rfl, ?_⟩
 by_cases h0 : m = 0
 ·subst h0; decide
 ·have e : IntKind.i64.wrap ((m : Int) - 1) = ((m - 1 : Nat) : Int) := by rw [IntKind.wrap_i64]; omega
  rw [e, NN.andI _ _ (by omega) (by omega)]
  rfl
theorem wl_at (m : Nat) (hm : m ≤ 9223372036854775807) (w : World) : Ca_ 57 #[.int .i64 (m : Int)] w (.int .i64 ((clr m : Nat) : Int)) := by
 obtain ⟨k, h1, h2⟩ := qxo_ m hm
 obtain ⟨c, hc⟩ : ∃ c : Int, c = ((clr m : Nat) : Int) := ⟨_, rfl⟩
 rw [← hc] at h2 ⊢
 clear hc hm
 obtain ⟨mi, hm⟩ : ∃ mi : Int, mi = (m : Int) := ⟨_, rfl⟩
 rw [← hm] at h1 h2 ⊢
 clear hm
 have hB := Below.refl w.heap.size w
 go_enter Tryz.func57, Tryz.ntmps57
 go_wp2_with fail
 go_ret
 exact ⟨rfl, hB⟩
theorem qjc_ (h : Int) (g1 g2 : Bool) (q k c c2 c3 : Int) (h1 : decide (h < 2) = g1) (hq : Int.tmod h 2 = q) (h2 : (q == 0) = g2) (h3 : IntKind.i64.wrap (h - 1) = k) (h4 : IntKind.i64.wrap (c2 + 1) = c3) (w : World)
  (K1 : Hid (∀ w', g1 = false → g2 = true → Calls Tryz.prog 57 #[.int .i64 h] w' fun e w'' => e = .returned (.int .i64 c) ∧ Below w'.heap.size w' w''))
  (K2 : Hid (∀ w', g1 = false → g2 = false → Calls Tryz.prog 57 #[.int .i64 k] w' fun e w'' => e = .returned (.int .i64 c) ∧ Below w'.heap.size w' w''))
  (K3 : Hid (∀ w', g1 = false → g2 = false → Calls Tryz.prog 57 #[.int .i64 c] w' fun e w'' => e = .returned (.int .i64 c2) ∧ Below w'.heap.size w' w'')) :
  Ca_ 34 #[.int .i64 h] w (.int .i64 (if g1 then 0 else if g2 then c else c3)) := by
 have hB := Below.refl w.heap.size w
 cases g1
 ·cases g2
  ·go_enter Tryz.func34, Tryz.ntmps34
   go_wp2_with fail
   refine (K2.out _ (by simp) (by simp)).mono ?_
   rintro e v1 ⟨rfl, hb⟩
   replace hB := tb_ hB hb
   clear hb
   go_wp2_with fail
   refine (K3.out _ (by simp) (by simp)).mono ?_
   rintro e v2 ⟨rfl, hb⟩
   replace hB := tb_ hB hb
   clear hb
   go_wp2_with fail
   go_ret
   exact ⟨rfl, hB⟩
  ·go_enter Tryz.func34, Tryz.ntmps34
   go_wp2_with fail
   refine (K1.out _ (by simp) (by simp)).mono ?_
   rintro e v1 ⟨rfl, hb⟩
   replace hB := tb_ hB hb
   clear hb
   go_wp2_with fail
   go_ret
   exact ⟨rfl, hB⟩
 ·go_enter Tryz.func34, Tryz.ntmps34
  go_wp2_with fail
  go_ret
  exact ⟨rfl, hB⟩
theorem qdy_ (h : Int) (hh : h ≤ 9223372036854775807) (h0 : -9223372036854775808 ≤ h) (w : World) : Ca_ 34 #[.int .i64 h] w (.int .i64 ((hgt h.toNat : Nat) : Int)) := by
  by_cases hs : h < 2
  · have := qjc_ h true (Int.tmod h 2 == 0) _ _ 0 0 _ (decide_eq_true hs) rfl rfl rfl rfl w (h_ fun _ h => by cases h) (h_ fun _ h => by cases h) (h_ fun _ h => by cases h)
    rw [Ar.qke_ (by omega)]
    exact this
  · obtain ⟨n, rfl⟩ := Int.eq_ofNat_of_zero_le (by omega : 0 ≤ h)
    have hq : Int.tmod (n : Int) 2 = ((n % 2 : Nat) : Int) := by rw [Int.tmod_eq_emod_of_nonneg (by omega)]; omega
    rw [Int.toNat_natCast]
    by_cases he : n % 2 = 0
    · have := qjc_ (n : Int) false true _ _ ((clr n : Nat) : Int) 0 _ (decide_eq_false hs) hq (by rw [he]; rfl) rfl rfl w (h_ fun w' _ _ => wl_at n (by omega) w') (h_ fun _ _ h => by cases h) (h_ fun _ _ h => by cases h)
      rw [Ar.qom_ (by omega) he]
      exact this
    · have e1 : IntKind.i64.wrap ((n : Int) - 1) = ((n - 1 : Nat) : Int) := by rw [IntKind.wrap_i64]; omega
      have hc1 := Ar.clr_le (n - 1)
      have hc2 := Ar.clr_le (clr (n - 1))
      have e2 : IntKind.i64.wrap (((clr (clr (n - 1)) : Nat) : Int) + 1) = ((1 + clr (clr (n - 1)) : Nat) : Int) := by rw [IntKind.wrap_i64]; omega
      have := qjc_ (n : Int) false false _ _ ((clr (n - 1) : Nat) : Int) ((clr (clr (n - 1)) : Nat) : Int) _ (decide_eq_false hs) hq (by rw [show n % 2 = 1 by omega]; rfl) e1 e2 w (h_ fun _ _ h => by cases h) (h_ fun w' _ _ => wl_at (n - 1) (by omega) w') (h_ fun w' _ _ => wl_at (clr (n - 1)) (by omega) w')
      rw [Ar.qtk_ (by omega) (by omega)]
      exact this
theorem qxp_ (w : World) : Ca_ 38 #[.pointer none] w (.pointer none) := by
 have hB := Below.refl w.heap.size w
 go_enter Tryz.func38, Tryz.ntmps38
 go_wp2_with fail
 go_ret
 exact ⟨rfl, hB⟩
theorem held_w (b ab : Nat) (w : World) (hv : w.cell? ⟨b, 0, none⟩ = some (.pointer (some ⟨ab, 0, none⟩))) : Ca_ 38 #[.pointer (some ⟨b, 0, none⟩)] w (.pointer (some ⟨ab, 0, none⟩)) := by
 have hB := Below.refl w.heap.size w
 go_enter Tryz.func38, Tryz.ntmps38
 go_wp2_with fail
 go_ret
 exact ⟨rfl, hB⟩
def HeldIs (w : World) (tp ap : Value) : Prop := ∀ w', Below w.heap.size w w' → Calls Tryz.prog 38 #[tp] w' fun e w'' => e = .returned ap ∧ Below w'.heap.size w' w''
theorem tlen_w (tp ap : Value) (n : Int) (w : World) (KH : Hid (HeldIs w tp ap)) (KL : HK_ w 25 #[ap] (.int .i64 n)) :
  Ca_ 10 #[tp] w (.int .i64 n) := by
 have hB := Below.refl w.heap.size w
 go_enter Tryz.func10, Tryz.ntmps10
 go_wp2_with fail
 refine (KH.out _ hB).mono ?_
 rintro e v1 ⟨rfl, hb⟩
 replace hB := tb_ hB hb
 clear hb
 go_wp2_with fail
 refine (KL.out _ hB).mono ?_
 rintro e v2 ⟨rfl, hb⟩
 replace hB := tb_ hB hb
 clear hb
 go_wp2_with fail
 go_ret
 exact ⟨rfl, hB⟩
theorem troom_w (tp ap : Value) (n : Int) (w : World) (KH : Hid (HeldIs w tp ap)) (KL : HK_ w 31 #[ap] (.int .i64 n)) :
  Ca_ 17 #[tp] w (.int .i64 n) := by
 have hB := Below.refl w.heap.size w
 go_enter Tryz.func17, Tryz.ntmps17
 go_wp2_with fail
 refine (KH.out _ hB).mono ?_
 rintro e v1 ⟨rfl, hb⟩
 replace hB := tb_ hB hb
 clear hb
 go_wp2_with fail
 refine (KL.out _ hB).mono ?_
 rintro e v2 ⟨rfl, hb⟩
 replace hB := tb_ hB hb
 clear hb
 go_wp2_with fail
 go_ret
 exact ⟨rfl, hB⟩
theorem qpg_ (tp ap : Value) (x y : Int) (g : Bool) (w : World) (KH : Hid (HeldIs w tp ap)) (KL : HK_ w 30 #[ap, .int .i64 x, .int .i64 y] (.bool g)) :
  Ca_ 20 #[tp, .int .i64 x, .int .i64 y] w (.bool g) := by
 have hB := Below.refl w.heap.size w
 go_enter Tryz.func20, Tryz.ntmps20
 go_wp2_with fail
 refine (KH.out _ hB).mono ?_
 rintro e v1 ⟨rfl, hb⟩
 replace hB := tb_ hB hb
 clear hb
 go_wp2_with fail
 refine (KL.out _ hB).mono ?_
 rintro e v2 ⟨rfl, hb⟩
 replace hB := tb_ hB hb
 clear hb
 go_wp2_with fail
 go_ret
 exact ⟨rfl, hB⟩
theorem tat_w (tp ap : Value) (k : Int) (e : En) (he : e.ok) (g : Bool) (w : World) (KH : Hid (HeldIs w tp ap)) (KL : Hid (∀ w', Below w.heap.size w w' → Calls Tryz.prog 27 #[ap, .int .i64 k] w' fun x w'' => x = .returned (.tuple #[.agg (enA e), .bool g]) ∧ Below w'.heap.size w' w'')) :
  Calls Tryz.prog 26 #[tp, .int .i64 k] w fun x w' => x = .returned (.tuple #[.agg (enA e), .bool g]) ∧ Below w.heap.size w w' := by
 have z0 := qad_ enZ_ok
 have z1 := qad_ he
 go_enter Tryz.func26, Tryz.ntmps26
 go_upto_region 1 with fail
 generalize hw0 : World.alloc _ _ = v0
 have hB : Below w.heap.size w v0 := bl_ hw0
 have hR : EnAt v0 w.heap.size enZ := by rw [← hw0]; exact qck_ w
 clear hw0
 obtain ⟨bR, hbR⟩ : ∃ x, x = w.heap.size := ⟨_, rfl⟩
 rw [← hbR] at hR ⊢
 have HBR : Hid (w.heap.size ≤ bR) := h_ (by omega)
 clear hbR
 go_wp2_with fail
 refine (KH.out _ hB).mono ?_
 rintro x v1 ⟨rfl, hb⟩
 replace hR := hR.on hb
 replace hB := tb_ hB hb
 clear hb
 go_wp2_with fail
 refine (KL.out _ hB).mono ?_
 rintro x v2 ⟨rfl, hb⟩
 replace hR := hR.on hb
 replace hB := tb_ hB hb
 clear hb
 go_wp2_with (with_reducible refine qbn_ rfl _ _ rfl _ _ e rfl rfl rfl z1 hR z0 ?_)
 refine bodyPost_ret (qdm_ Tryz.results26 _ _ _ rfl rfl (Has.row hR _) z1) rfl ⟨rfl, below_setRow hB HBR.out _⟩
section
variable {w : World} {F : Nat → Prop} {b : Nat} {r : Ru} {M : List Ent} {ls : List Int}
theorem HeldIs.nil (w : World) : HeldIs w (.pointer none) (.pointer none) := fun w' _ => qxp_ w'
theorem TrS.parts (h : TrS w F b r M ls) : ∃ Fa ab, HeldIs w (.pointer (some ⟨b, 0, none⟩)) (.pointer (some ⟨ab, 0, none⟩)) ∧ ArS w Fa ab r M := by
 obtain ⟨hl, Fa, ab, lv, h1, h2, h3, h4, h5, h6, h7, h8, h9⟩ := h
 exact ⟨Fa, ab, fun w' hb => held_w b ab w' ((hb.cell (p := ⟨b, 0, none⟩) (Has.lt h1)).trans (Has.cell h1 0)), h2⟩
theorem qtv_ (h : TrS w F b r M ls) : Ca_ 10 #[.pointer (some ⟨b, 0, none⟩)] w (.int .i64 (M.length : Nat)) := by
 obtain ⟨Fa, ab, k1, k2⟩ := h.parts
 exact tlen_w _ _ _ w (h_ k1) (h_ fun w' hb => len_at (k2.below hb))
theorem qxq_ (h : TrS w F b r M ls) : Ca_ 17 #[.pointer (some ⟨b, 0, none⟩)] w (.int .i64 (r.room : Nat)) := by
 obtain ⟨Fa, ab, k1, k2⟩ := h.parts
 exact troom_w _ _ _ w (h_ k1) (h_ fun w' hb => qto_ (k2.below hb))
theorem tat_at (h : TrS w F b r M ls) {i : Nat} {e : Ent} (he : M[i]? = some e) (k : Int) (hk : k = (i : Nat)) : Calls Tryz.prog 26 #[.pointer (some ⟨b, 0, none⟩), .int .i64 k] w fun x w' => x = .returned (.tuple #[.agg (enA (enOf r e)), .bool true]) ∧ Below w.heap.size w w' := by
 obtain ⟨Fa, ab, k1, k2⟩ := h.parts
 exact tat_w _ _ _ _ (qer_ k2 he) _ w (h_ k1) (h_ fun w' hb => at_at (k2.below hb) he k hk)
theorem qph_ (h : TrS w F b r M ls) (k : Int) (hk : ¬ (0 ≤ k ∧ k < (M.length : Nat))) : Calls Tryz.prog 26 #[.pointer (some ⟨b, 0, none⟩), .int .i64 k] w fun x w' => x = .returned (.tuple #[.agg (enA enN), .bool false]) ∧ Below w.heap.size w w' := by
 obtain ⟨Fa, ab, k1, k2⟩ := h.parts
 exact tat_w _ _ _ _ enN_ok _ w (h_ k1) (h_ fun w' hb => at_not (k2.below hb) k hk)
end
end Go.Proofs.YtgaocfhlagbkpaaGreatDoor.An
