/-
  Two boards beside one another, the box of a call, and rows of faults: what a deed on one of them leaves.
-/
import Derived.Test.YtehineieklpgoaaSrLaw
import Derived.Test.YtehineieklpgoaaSrRBl
namespace Go.Proofs.Ytehineieklpgoaa.An
open Go.RowKit Mem NN.Rg2
open Sr (Bd pt pts upd wo shunRow last16)
set_option maxRecDepth 100000
abbrev OwnP := World → (Nat → Prop) → Prop
/-- it hangs on its own blocks alone -/
def Own (A : OwnP) : Prop := ∀ w w' F H, A w F → Kp H w w' → (∀ i, F i → ¬ H i) → A w' F
def PB (b m : Nat) (x : Bd) : OwnP := fun w F => BdS w F b m x
def RB (r m : Nat) (x : Bd) : OwnP := fun w F => RdS w F r m x
theorem PB.own (b m : Nat) (x : Bd) : Own (PB b m x) := fun _ _ _ _ h k hn => BdS.keep h k hn
theorem RB.own (r m : Nat) (x : Bd) : Own (RB r m x) := fun _ _ _ _ h k hn => RdS.keep h k hn
abbrev FsL := List (Option Addr × List Int)
def Duo (w0 w : World) (A B : OwnP) (bx : Option (Nat × Cl)) (E : FsL) : Prop :=
  ∃ F G, A w F ∧ B w G ∧ (∀ i, F i → w0.heap.size ≤ i ∧ i < w.heap.size ∧ ¬ G i) ∧ (∀ i, G i → w0.heap.size ≤ i ∧ i < w.heap.size) ∧ (∀ z, bx = some z → ClAt w z.1 z.2 ∧ w0.heap.size ≤ z.1 ∧ ¬ F z.1 ∧ ¬ G z.1) ∧
    (∀ z ∈ E, FsAt w z.1 z.2 ∧ ∀ a, z.1 = some a → w0.heap.size ≤ a.block ∧ a.block < w.heap.size ∧ ¬ F a.block ∧ ¬ G a.block) ∧ Below w0.heap.size w0 w
section
variable {w0 w w' : World} {A B A' B' : OwnP} {bx : Option (Nat × Cl)} {E E' : FsL}
theorem Duo.below (h : Duo w0 w A B bx E) : Below w0.heap.size w0 w := by obtain ⟨F, G, _, _, _, _, _, _, h⟩ := h; exact h
theorem Duo.sub (h : Duo w0 w A B bx E) (hE : ∀ z ∈ E', z ∈ E) : Duo w0 w A B bx E' := by
  obtain ⟨F, G, h1, h2, h3, h4, h5, h6, h7⟩ := h
  exact ⟨F, G, h1, h2, h3, h4, h5, fun z hz => h6 z (hE z hz), h7⟩
theorem Duo.free (h : Duo w0 w A B bx E) : Duo w0 w A B none [] := by
  obtain ⟨F, G, h1, h2, h3, h4, h5, h6, h7⟩ := h
  exact ⟨F, G, h1, h2, h3, h4, fun z hz => (by cases hz), fun z hz => (by cases hz), h7⟩
theorem Duo.cl {z : Nat × Cl} (h : Duo w0 w A B (some z) E) : ClAt w z.1 z.2 := by
  obtain ⟨F, G, h1, h2, h3, h4, h5, h6, h7⟩ := h
  exact (h5 z rfl).1
theorem Duo.fs (h : Duo w0 w A B bx E) {z : Option Addr × List Int} (hz : z ∈ E) : FsAt w z.1 z.2 := by
  obtain ⟨F, G, h1, h2, h3, h4, h5, h6, h7⟩ := h
  exact (h6 z hz).1
theorem Duo.fst (h : Duo w0 w A B bx E) : ∃ F, A w F := by
  obtain ⟨F, G, h1, _⟩ := h
  exact ⟨F, h1⟩
theorem Duo.snd (h : Duo w0 w A B bx E) : ∃ F, B w F := by
  obtain ⟨F, G, _, h2, _⟩ := h
  exact ⟨G, h2⟩
/-- a deed on the first -/
theorem Duo.actA (h : Duo w0 w A B bx E) (OB : Own B) : ∃ F, A w F ∧ ∀ w' A', A' w' (Nxt F w w') → Kp F w w' → Duo w0 w' A' B bx E := by
  obtain ⟨F, G, h1, h2, h3, h4, h5, h6, h7⟩ := h
  refine ⟨F, h1, fun w' A' ha hk => ⟨Nxt F w w', G, ha, OB _ _ _ _ h2 hk fun i hi hf => (h3 i hf).2.2 hi, fun i hi => ?_, fun i hi => ⟨(h4 i hi).1, Nat.lt_of_lt_of_le (h4 i hi).2 hk.size⟩, fun z hz => ?_, fun z hz => ?_, h7.trans (hk.below (fun i hi => (h3 i hi).1) h7.size)⟩⟩
  · rcases hi with hi | hi
    · exact ⟨(h3 i hi).1, Nat.lt_of_lt_of_le (h3 i hi).2.1 hk.size, (h3 i hi).2.2⟩
    · exact ⟨Nat.le_trans h7.size hi.1, hi.2, fun hg => absurd (h4 i hg).2 (Nat.not_lt_of_le hi.1)⟩
  · obtain ⟨q1, q2, q3, q4⟩ := h5 z hz
    refine ⟨hk.has q1 q3, q2, fun hf => hf.elim q3 fun hf => absurd (Has.lt q1) (Nat.not_lt_of_le hf.1), q4⟩
  · obtain ⟨q1, q2⟩ := h6 z hz
    refine ⟨q1.on hk.size fun b off e hb => hk.block b hb ((q2 _ e).2.2.1), fun a ha => ?_⟩
    obtain ⟨p1, p2, p3, p4⟩ := q2 a ha
    exact ⟨p1, Nat.lt_of_lt_of_le p2 hk.size, fun hf => hf.elim p3 fun hf => absurd p2 (Nat.not_lt_of_le hf.1), p4⟩
theorem Duo.actB (h : Duo w0 w A B bx E) (OA : Own A) : ∃ G, B w G ∧ ∀ w' B', B' w' (Nxt G w w') → Kp G w w' → Duo w0 w' A B' bx E := by
  obtain ⟨F, G, h1, h2, h3, h4, h5, h6, h7⟩ := h
  refine ⟨G, h2, fun w' B' hb hk => ⟨F, Nxt G w w', OA _ _ _ _ h1 hk fun i hi hg => (h3 i hi).2.2 hg, hb, fun i hi => ⟨(h3 i hi).1, Nat.lt_of_lt_of_le (h3 i hi).2.1 hk.size, fun hg => hg.elim (h3 i hi).2.2 fun hg => absurd (h3 i hi).2.1 (Nat.not_lt_of_le hg.1)⟩, fun i hi => ?_, fun z hz => ?_, fun z hz => ?_, h7.trans (hk.below (fun i hi => (h4 i hi).1) h7.size)⟩⟩
  · rcases hi with hi | hi
    · exact ⟨(h4 i hi).1, Nat.lt_of_lt_of_le (h4 i hi).2 hk.size⟩
    · exact ⟨Nat.le_trans h7.size hi.1, hi.2⟩
  · obtain ⟨q1, q2, q3, q4⟩ := h5 z hz
    refine ⟨hk.has q1 q4, q2, q3, fun hf => hf.elim q4 fun hf => absurd (Has.lt q1) (Nat.not_lt_of_le hf.1)⟩
  · obtain ⟨q1, q2⟩ := h6 z hz
    refine ⟨q1.on hk.size fun b off e hb => hk.block b hb ((q2 _ e).2.2.2), fun a ha => ?_⟩
    obtain ⟨p1, p2, p3, p4⟩ := q2 a ha
    exact ⟨p1, Nat.lt_of_lt_of_le p2 hk.size, p3, fun hf => hf.elim p4 fun hf => absurd p2 (Nat.not_lt_of_le hf.1)⟩
theorem Duo.rest (h : Duo w0 w A B bx E) (OA : Own A) (OB : Own B) (hb : Below w.heap.size w w') : Duo w0 w' A B bx E := by
  have hk : Kp (fun _ => False) w w' := Kp.of hb
  obtain ⟨F, G, h1, h2, h3, h4, h5, h6, h7⟩ := h
  refine ⟨F, G, OA _ _ _ _ h1 hk (fun _ _ h => h), OB _ _ _ _ h2 hk (fun _ _ h => h), fun i hi => ⟨(h3 i hi).1, Nat.lt_of_lt_of_le (h3 i hi).2.1 hb.size, (h3 i hi).2.2⟩, fun i hi => ⟨(h4 i hi).1, Nat.lt_of_lt_of_le (h4 i hi).2 hb.size⟩, fun z hz => ?_, fun z hz => ?_, h7.trans (hb.mono h7.size)⟩
  · obtain ⟨q1, q2, q3, q4⟩ := h5 z hz
    exact ⟨below_has hb q1 (Has.lt q1), q2, q3, q4⟩
  · obtain ⟨q1, q2⟩ := h6 z hz
    refine ⟨q1.below hb, fun a ha => ?_⟩
    obtain ⟨p1, p2, p3⟩ := q2 a ha
    exact ⟨p1, Nat.lt_of_lt_of_le p2 hb.size, p3⟩
/-- a row of faults that came up -/
theorem Duo.put (h : Duo w0 w A B bx E) (OA : Own A) (OB : Own B) (hb : Below w.heap.size w w') {p : Option Addr} {l : List Int} (hf : FsAt w' p l) (hn : ∀ a, p = some a → w.heap.size ≤ a.block ∧ a.block < w'.heap.size) : Duo w0 w' A B bx ((p, l) :: E) := by
  have hfg : ∃ F G, A w F ∧ B w G := by obtain ⟨F, G, h1, h2, _⟩ := h; exact ⟨F, G, h1, h2⟩
  obtain ⟨F, G, h1, h2, h3, h4, h5, h6, h7⟩ := h
  have hk : Kp (fun _ => False) w w' := Kp.of hb
  refine ⟨F, G, OA _ _ _ _ h1 hk (fun _ _ h => h), OB _ _ _ _ h2 hk (fun _ _ h => h), fun i hi => ⟨(h3 i hi).1, Nat.lt_of_lt_of_le (h3 i hi).2.1 hb.size, (h3 i hi).2.2⟩, fun i hi => ⟨(h4 i hi).1, Nat.lt_of_lt_of_le (h4 i hi).2 hb.size⟩, fun z hz => ?_, fun z hz => ?_, h7.trans (hb.mono h7.size)⟩
  · obtain ⟨q1, q2, q3, q4⟩ := h5 z hz
    exact ⟨below_has hb q1 (Has.lt q1), q2, q3, q4⟩
  · rcases List.mem_cons.1 hz with rfl | hz
    · refine ⟨hf, fun a ha => ?_⟩
      have h9 := hn a ha
      exact ⟨Nat.le_trans h7.size h9.1, h9.2, fun hh => absurd (h3 _ hh).2.1 (Nat.not_lt_of_le h9.1), fun hh => absurd (h4 _ hh).2 (Nat.not_lt_of_le h9.1)⟩
    · obtain ⟨q1, q2⟩ := h6 z hz
      refine ⟨q1.below hb, fun a ha => ?_⟩
      obtain ⟨p1, p2, p3⟩ := q2 a ha
      exact ⟨p1, Nat.lt_of_lt_of_le p2 hb.size, p3⟩
/-- the box of a call -/
theorem Duo.box (h : Duo w0 w A B bx E) (OA : Own A) (OB : Own B) (hb : Below w.heap.size w w') {bC : Nat} {y : Cl} (hC : ClAt w' bC y) (hn : w.heap.size ≤ bC) : Duo w0 w' A B (some (bC, y)) E := by
  obtain ⟨F, G, h1, h2, h3, h4, h5, h6, h7⟩ := h
  have hk : Kp (fun _ => False) w w' := Kp.of hb
  refine ⟨F, G, OA _ _ _ _ h1 hk (fun _ _ h => h), OB _ _ _ _ h2 hk (fun _ _ h => h), fun i hi => ⟨(h3 i hi).1, Nat.lt_of_lt_of_le (h3 i hi).2.1 hb.size, (h3 i hi).2.2⟩, fun i hi => ⟨(h4 i hi).1, Nat.lt_of_lt_of_le (h4 i hi).2 hb.size⟩, fun z hz => ?_, fun z hz => ?_, h7.trans (hb.mono h7.size)⟩
  · obtain rfl := Option.some.inj hz
    exact ⟨hC, Nat.le_trans h7.size hn, fun hh => absurd (h3 _ hh).2.1 (Nat.not_lt_of_le hn), fun hh => absurd (h4 _ hh).2 (Nat.not_lt_of_le hn)⟩
  · obtain ⟨q1, q2⟩ := h6 z hz
    refine ⟨q1.below hb, fun a ha => ?_⟩
    obtain ⟨p1, p2, p3⟩ := q2 a ha
    exact ⟨p1, Nat.lt_of_lt_of_le p2 hb.size, p3⟩
end
/-! ### the deeds -/
section
variable {w0 w : World} {A B : OwnP} {bx : Option (Nat × Cl)} {E : FsL} {b m : Nat} {x : Bd}
theorem duo_faults (h : Duo w0 w A B bx E) (OA : Own A) (OB : Own B) (p : Option Addr) (l : List Int) (n c : Nat) (hn : n = l.length) (hl : n ≤ 100) (hA : FsAt w p l) : Calls Try.prog 12 #[.slice p n c] w fun e w' => ∃ p' c', e = .returned (.slice p' n c') ∧ Duo w0 w' A B bx ((p', l) :: E) :=
  (faults_at p l n c hn hl w hA).mono fun e w' ⟨p', c', he, hf, hb, hbel⟩ => ⟨p', c', he, h.put OA OB hbel hf fun a ha => hb _ (by rw [ha]; rfl)⟩
theorem duo_blame1 (h : Duo w0 w (PB b m x) B bx E) (OB : Own B) (hm : m < 1000) (k : Int) (hk : in64 k) (p : Option Addr) (l : List Int) (n c : Nat) (hn : n = l.length) (hl : n ≤ 1000) (hA : FsAt w p l) :
    Calls Try.prog 13 #[.pointer (some ⟨b, 0, none⟩), .int .i64 k, .slice p n c] w fun e w' => e = .returned (.bool ((x.blame k (pts l)).shuns k)) ∧ Duo w0 w' (PB b (m + 1) (x.blame k (pts l))) B bx E := by
  obtain ⟨F, h1, h2⟩ := h.actA OB
  exact (blame_at h1 hm k hk p l n c hn hl hA).mono fun e w' ⟨he, hb, hkp⟩ => ⟨he, h2 w' (PB b (m + 1) (x.blame k (pts l))) hb hkp⟩
theorem duo_blame2 (h : Duo w0 w A (PB b m x) bx E) (OA : Own A) (hm : m < 1000) (k : Int) (hk : in64 k) (p : Option Addr) (l : List Int) (n c : Nat) (hn : n = l.length) (hl : n ≤ 1000) (hA : FsAt w p l) :
    Calls Try.prog 13 #[.pointer (some ⟨b, 0, none⟩), .int .i64 k, .slice p n c] w fun e w' => e = .returned (.bool ((x.blame k (pts l)).shuns k)) ∧ Duo w0 w' A (PB b (m + 1) (x.blame k (pts l))) bx E := by
  obtain ⟨F, h1, h2⟩ := h.actB OA
  exact (blame_at h1 hm k hk p l n c hn hl hA).mono fun e w' ⟨he, hb, hkp⟩ => ⟨he, h2 w' (PB b (m + 1) (x.blame k (pts l))) hb hkp⟩
theorem duo_rblame (h : Duo w0 w A (RB b m x) bx E) (OA : Own A) (hm : m < 1000) (k : Int) (p : Option Addr) (l : List Int) (n c : Nat) (hn : n = l.length) (hl : n ≤ 1000) (hA : FsAt w p l) :
    Calls Try.prog 14 #[.pointer (some ⟨b, 0, none⟩), .int .i64 k, .slice p n c] w fun e w' => e = .returned (.bool ((x.blame k (pts l)).shuns k)) ∧ Duo w0 w' A (RB b (m + 1) (x.blame k (pts l))) bx E := by
  obtain ⟨F, h1, h2⟩ := h.actB OA
  exact (rblame_at h1 hm k p l n c hn hl hA).mono fun e w' ⟨he, hb, hkp⟩ => ⟨he, h2 w' (RB b (m + 1) (x.blame k (pts l))) hb hkp⟩
theorem duo_forget1 (h : Duo w0 w (PB b m x) B bx E) (OB : Own B) (k : Int) (hk : in64 k) : Calls Try.prog 15 #[.pointer (some ⟨b, 0, none⟩), .int .i64 k] w fun e w' => e = .returned (.tuple #[]) ∧ Duo w0 w' (PB b m (x.forget k)) B bx E := by
  obtain ⟨F, h1, h2⟩ := h.actA OB
  exact (forget_at h1 k hk).mono fun e w' ⟨he, hb, hkp⟩ => ⟨he, h2 w' (PB b m (x.forget k)) (hb.wide fun i hi => .inl hi) hkp⟩
theorem duo_forget2 (h : Duo w0 w A (PB b m x) bx E) (OA : Own A) (k : Int) (hk : in64 k) : Calls Try.prog 15 #[.pointer (some ⟨b, 0, none⟩), .int .i64 k] w fun e w' => e = .returned (.tuple #[]) ∧ Duo w0 w' A (PB b m (x.forget k)) bx E := by
  obtain ⟨F, h1, h2⟩ := h.actB OA
  exact (forget_at h1 k hk).mono fun e w' ⟨he, hb, hkp⟩ => ⟨he, h2 w' (PB b m (x.forget k)) (hb.wide fun i hi => .inl hi) hkp⟩
theorem duo_rforget (h : Duo w0 w A (RB b m x) bx E) (OA : Own A) (hm : m ≤ 1000) (k : Int) : Calls Try.prog 16 #[.pointer (some ⟨b, 0, none⟩), .int .i64 k] w fun e w' => e = .returned (.tuple #[]) ∧ Duo w0 w' A (RB b m (x.forget k)) bx E := by
  obtain ⟨F, h1, h2⟩ := h.actB OA
  exact (rforget_at h1 hm k).mono fun e w' ⟨he, hb, hkp⟩ => ⟨he, h2 w' (RB b m (x.forget k)) hb hkp⟩
theorem PB.more {w : World} {F : Nat → Prop} {n : Nat} (h : PB b m x w F) (hm : m ≤ n) : PB b n x w F := BdS.more h hm
theorem RB.more {w : World} {F : Nat → Prop} {n : Nat} (h : RB b m x w F) (hm : m ≤ n) : RB b n x w F := RdS.more h hm
theorem Duo.mapA {w0 w : World} {A A' B : OwnP} {bx : Option (Nat × Cl)} {E : FsL} (h : Duo w0 w A B bx E) (hA : ∀ F, A w F → A' w F) : Duo w0 w A' B bx E := by
  obtain ⟨F, G, h1, h2⟩ := h
  exact ⟨F, G, hA F h1, h2⟩
theorem Duo.mapB {w0 w : World} {A B B' : OwnP} {bx : Option (Nat × Cl)} {E : FsL} (h : Duo w0 w A B bx E) (hB : ∀ F, B w F → B' w F) : Duo w0 w A B' bx E := by
  obtain ⟨F, G, h1, h2, h3⟩ := h
  exact ⟨F, G, h1, hB G h2, h3⟩
theorem duo_sum1 (h : Duo w0 w (PB b m x) B bx E) (k : Int) (hk : in64 k) : Calls Try.prog 18 #[.pointer (some ⟨b, 0, none⟩), .int .i64 k] w fun e w' => e = .returned (.int .i64 (x.p k : Int)) ∧ w' = w := by
  obtain ⟨F, hF⟩ := h.fst
  exact sum_at hF k hk
theorem duo_sum2 (h : Duo w0 w A (PB b m x) bx E) (k : Int) (hk : in64 k) : Calls Try.prog 18 #[.pointer (some ⟨b, 0, none⟩), .int .i64 k] w fun e w' => e = .returned (.int .i64 (x.p k : Int)) ∧ w' = w := by
  obtain ⟨F, hF⟩ := h.snd
  exact sum_at hF k hk
theorem duo_rsum (h : Duo w0 w A (RB b m x) bx E) (hm : m ≤ 1000) (k : Int) : Calls Try.prog 19 #[.pointer (some ⟨b, 0, none⟩), .int .i64 k] w fun e w' => e = .returned (.int .i64 (x.p k : Int)) ∧ w' = w := by
  obtain ⟨F, hF⟩ := h.snd
  exact rsum_at hF hm k
theorem duo_shuns1 (h : Duo w0 w (PB b m x) B bx E) (k : Int) : Calls Try.prog 20 #[.pointer (some ⟨b, 0, none⟩), .int .i64 k] w fun e w' => e = .returned (.bool (x.shuns k)) ∧ w' = w := by
  obtain ⟨F, hF⟩ := h.fst
  exact shuns_at hF k
theorem duo_shuns2 (h : Duo w0 w A (PB b m x) bx E) (k : Int) : Calls Try.prog 20 #[.pointer (some ⟨b, 0, none⟩), .int .i64 k] w fun e w' => e = .returned (.bool (x.shuns k)) ∧ w' = w := by
  obtain ⟨F, hF⟩ := h.snd
  exact shuns_at hF k
theorem duo_rshuns (h : Duo w0 w A (RB b m x) bx E) (k : Int) : Calls Try.prog 21 #[.pointer (some ⟨b, 0, none⟩), .int .i64 k] w fun e w' => e = .returned (.bool (x.shuns k)) ∧ w' = w := by
  obtain ⟨F, hF⟩ := h.snd
  obtain ⟨va, ps, vs, ss, vr, hR, _⟩ := RdS.ex hF
  exact rshuns_at hR (by have := (RdS.ok hF).few; omega) k
/-- what the document's row says -/
theorem duo_row (h : Duo w0 w A (RB b m x) bx E) : ∃ p c, w.cell? ⟨b, 2, none⟩ = some (.slice p x.row.length c) ∧ FsAt w p x.row := by
  obtain ⟨F, hF⟩ := h.snd
  obtain ⟨va, ps, vs, ss, vr, hR, _⟩ := RdS.ex hF
  obtain ⟨p, c, e, hp⟩ := hR.ra
  exact ⟨p, c, by rw [hR.c2, e], hp⟩
theorem duo_shunned (h : Duo w0 w (PB b m x) B bx E) : Calls Try.prog 17 #[.pointer (some ⟨b, 0, none⟩)] w fun e w' => ∃ v, e = .returned v ∧ RowI w' v x.row ∧ (∀ k, v.ownBlock = some k → w.heap.size ≤ k) ∧ Below w.heap.size w w' := by
  obtain ⟨F, hF⟩ := h.fst
  exact shunned_at hF
theorem Duo.ok1 (h : Duo w0 w (PB b m x) B bx E) : x.Ok := by
  obtain ⟨F, hF⟩ := h.fst
  exact BdS.ok hF
end
end Go.Proofs.Ytehineieklpgoaa.An
