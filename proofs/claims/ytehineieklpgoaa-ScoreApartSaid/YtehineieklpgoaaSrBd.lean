/-
  A board in memory; what reads it, New and Forget.
-/
import Derived.Test.YtehineieklpgoaaSrFn
namespace Go.Proofs.Ytehineieklpgoaa.An
open Go.RowKit Mem NN.Rg2
open Sr (Bd pt pts upd)
set_option maxRecDepth 100000
def bdA (mg : Nat) (rv : Value) : Array Value := #[.map (some mg), rv]
/-- block b is a board; all of its blocks are of F; its map has so many entries at most -/
structure BdS (w : World) (F : Nat → Prop) (b m : Nat) (x : Bd) : Prop where
  ex : ∃ mg rv, Has w b (bdA mg rv) 48 ∧ MapP w mg m x.p ∧ RowI w rv x.row ∧ F mg ∧ ∀ k, rv.ownBlock = some k → F k
  on : F b
  ok : x.Ok
theorem rowi_blk {w : World} {v : Value} {l : List Int} (h : RowI w v l) {k : Nat} (hk : v.ownBlock = some k) : ∃ cs, Has w k cs 3 := by
  rcases h.2 with ⟨rfl, _⟩ | ⟨g, c, cur, rfl, _, hg, _⟩
  · cases hk
  · cases hk
    exact ⟨cur, hg⟩
theorem rowi_kp {w w' : World} {F : Nat → Prop} {v : Value} {l : List Int} (h : RowI w v l) (k : Kp F w w') (hF : ∀ i, v.ownBlock = some i → ¬ F i) : RowI w' v l := by
  refine ⟨h.1, ?_⟩
  rcases h.2 with h | ⟨g, c, cur, rfl, h1, h2, h3⟩
  · exact .inl h
  · exact .inr ⟨g, c, cur, rfl, h1, (k.block g (Array.getElem?_eq_some_iff.1 h2).1 (hF g rfl)).trans h2, h3⟩
theorem rowi_slice {w : World} {v : Value} {l : List Int} (h : RowI w v l) : ∃ p c, v = .slice p l.length c := by
  obtain ⟨p, c, e, _⟩ := own_slice h
  exact ⟨p, c, e⟩
theorem rowi_lt {w : World} {v : Value} {l : List Int} (h : RowI w v l) {k : Nat} (hk : v.ownBlock = some k) : k < w.heap.size := by
  obtain ⟨cs, hc⟩ := rowi_blk h hk
  exact hc.lt
section
variable {w w' : World} {F G : Nat → Prop} {b m : Nat} {x : Bd}
theorem BdS.lt (h : BdS w F b m x) : b < w.heap.size := by obtain ⟨mg, rv, h1, _⟩ := h.ex; exact h1.lt
theorem BdS.keep (h : BdS w F b m x) (k : Kp G w w') (hG : ∀ i, F i → ¬ G i) : BdS w' F b m x := by
  obtain ⟨mg, rv, h1, h2, h3, h4, h5⟩ := h.ex
  exact ⟨⟨mg, rv, k.has h1 (hG b h.on), h2.on (k.block mg h2.lt (hG mg h4)), rowi_kp h3 k fun i hi => hG i (h5 i hi), h4, h5⟩, h.on, h.ok⟩
theorem BdS.below (h : BdS w F b m x) {B : Nat} (hb : Below B w w') (hF : ∀ i, F i → i < B) : BdS w' F b m x :=
  h.keep (G := fun i => B ≤ i) ⟨hb.os, hb.tape, hb.output, hb.size, fun k _ hn => hb.block k (Nat.lt_of_not_le hn)⟩ fun i hi hn => absurd (hF i hi) (Nat.not_lt_of_le hn)
theorem BdS.wide (h : BdS w F b m x) (hG : ∀ i, F i → G i) : BdS w G b m x := by
  obtain ⟨mg, rv, h1, h2, h3, h4, h5⟩ := h.ex
  exact ⟨⟨mg, rv, h1, h2, h3, hG _ h4, fun k hk => hG _ (h5 k hk)⟩, hG _ h.on, h.ok⟩
theorem BdS.more (h : BdS w F b m x) {n : Nat} (hm : m ≤ n) : BdS w F b n x := by
  obtain ⟨mg, rv, h1, h2, h3, h4, h5⟩ := h.ex
  exact ⟨⟨mg, rv, h1, h2.more hm, h3, h4, h5⟩, h.on, h.ok⟩
/-- of its blocks those alone that are there -/
theorem BdS.there (h : BdS w F b m x) : BdS w (fun i => F i ∧ i < w.heap.size) b m x := by
  obtain ⟨mg, rv, h1, h2, h3, h4, h5⟩ := h.ex
  exact ⟨⟨mg, rv, h1, h2, h3, ⟨h4, h2.lt⟩, fun k hk => ⟨h5 k hk, rowi_lt h3 hk⟩⟩, ⟨h.on, h1.lt⟩, h.ok⟩
end
section
variable {w : World} {F : Nat → Prop} {b m : Nat} {x : Bd}
theorem sum_at (h : BdS w F b m x) (k : Int) (hk : in64 k) : Calls Try.prog 18 #[.pointer (some ⟨b, 0, none⟩), .int .i64 k] w fun e w' => e = .returned (.int .i64 (x.p k : Int)) ∧ w' = w := by
  obtain ⟨mg, rv, h1, h2, h3, _⟩ := h.ex
  have c0 : w.cell? ⟨b, 0, none⟩ = some (.map (some mg)) := Has.cell h1 0
  have hl := h2.look hk
  obtain ⟨q, hq⟩ : ∃ q, q = x.p k := ⟨_, rfl⟩
  rw [← hq] at hl ⊢
  clear h1 h2 h3 h hq
  go_enter Try.func18, Try.ntmps18
  go_wp2_with fail
  go_ret
  exact ⟨rfl, rfl⟩
theorem sum_nil (k : Int) (w : World) : Calls Try.prog 18 #[.pointer none, .int .i64 k] w fun e w' => e = .returned (.int .i64 0) ∧ w' = w := by
  go_enter Try.func18, Try.ntmps18
  go_wp2_with fail
  go_ret
  exact ⟨rfl, rfl⟩
theorem shuns_at (h : BdS w F b m x) (k : Int) : Calls Try.prog 20 #[.pointer (some ⟨b, 0, none⟩), .int .i64 k] w fun e w' => e = .returned (.bool (x.shuns k)) ∧ w' = w := by
  obtain ⟨mg, rv, h1, h2, h3, _⟩ := h.ex
  have KC := Lib.hid (contains_at h3 (by have := h.ok.few; omega) k)
  obtain ⟨p, c, rfl⟩ := rowi_slice h3
  have c1 : w.cell? ⟨b, 1, none⟩ = some (.slice p x.row.length c) := Has.cell h1 1
  obtain ⟨g, hg⟩ : ∃ g, g = x.shuns k := ⟨_, rfl⟩
  rw [← hg]
  have KC2 := KC
  rw [show decide (k ∈ x.row) = g from hg.symm] at KC2
  clear h1 h2 h3 h hg KC
  go_enter Try.func20, Try.ntmps20
  go_wp2_with fail
  refine (KC2.out).mono ?_
  rintro e w' ⟨rfl, rfl⟩
  go_wp2_with fail
  go_ret
  exact ⟨rfl, rfl⟩
theorem shuns_nil (k : Int) (w : World) : Calls Try.prog 20 #[.pointer none, .int .i64 k] w fun e w' => e = .returned (.bool false) ∧ w' = w := by
  go_enter Try.func20, Try.ntmps20
  go_wp2_with fail
  go_ret
  exact ⟨rfl, rfl⟩
theorem shunned_at (h : BdS w F b m x) : Calls Try.prog 17 #[.pointer (some ⟨b, 0, none⟩)] w fun e w' => ∃ v, e = .returned v ∧ RowI w' v x.row ∧ (∀ k, v.ownBlock = some k → w.heap.size ≤ k) ∧ Below w.heap.size w w' := by
  obtain ⟨mg, rv, h1, h2, h3, _⟩ := h.ex
  have KC := Lib.hid (clone_at h3 (by have := h.ok.few; omega))
  obtain ⟨p, c, rfl⟩ := rowi_slice h3
  have c1 : w.cell? ⟨b, 1, none⟩ = some (.slice p x.row.length c) := Has.cell h1 1
  clear h1 h2 h3 h
  go_enter Try.func17, Try.ntmps17
  go_wp2_with fail
  refine (KC.out).mono ?_
  rintro e w' ⟨v, rfl, hR, hn, hb⟩
  obtain ⟨p', c', rfl⟩ := rowi_slice hR
  have HX := Lib.hid (And.intro hR (And.intro hn hb))
  clear hR hn hb
  go_wp2_with fail
  go_ret
  exact ⟨_, rfl, HX.out⟩
theorem shunned_nil (w : World) : Calls Try.prog 17 #[.pointer none] w fun e w' => e = .returned (.slice none 0 0) ∧ w' = w := by
  go_enter Try.func17, Try.ntmps17
  go_wp2_with fail
  go_ret
  exact ⟨rfl, rfl⟩
theorem forget_nil (k : Int) (w : World) : Calls Try.prog 15 #[.pointer none, .int .i64 k] w fun e w' => e = .returned (.tuple #[]) ∧ w' = w := by
  go_enter Try.func15, Try.ntmps15
  go_wp2_with fail
  go_end0
  exact ⟨rfl, rfl⟩
/-- the board behind a deed on its map alone -/
theorem BdS.turn {w' : World} {mg : Nat} {rv : Value} {n : Nat} {q : Int → Nat} (h1 : Has w b (bdA mg rv) 48) (hM : MapP w mg m x.p) (h3 : RowI w rv x.row) (hF : F mg) (hR : ∀ k, rv.ownBlock = some k → F k) (hb : F b) (h2 : MapP w' mg n q) (g : w.grownBy w' (some mg)) (hok : (⟨q, x.row⟩ : Bd).Ok) : BdS w' F b n ⟨q, x.row⟩ ∧ Kp F w w' ∧ Has w' b (bdA mg rv) 48 := by
  have hk : Kp (fun i => i = mg) w w' := Kp.gb g fun k hk => (Option.some.inj hk).symm
  have hbn : Has w' b (bdA mg rv) 48 := hk.has h1 (hM.not_cells h1)
  refine ⟨⟨⟨mg, rv, hbn, h2, rowi_kp h3 hk fun i hi => ?_, hF, hR⟩, hb, hok⟩, hk.mono fun i hi _ => hi ▸ hF, hbn⟩
  obtain ⟨cs, hc⟩ := rowi_blk h3 hi
  exact hM.not_cells hc
theorem forget_at (h : BdS w F b m x) (k : Int) (hk : in64 k) : Calls Try.prog 15 #[.pointer (some ⟨b, 0, none⟩), .int .i64 k] w fun e w' => e = .returned (.tuple #[]) ∧ BdS w' F b m (x.forget k) ∧ Kp F w w' := by
  obtain ⟨mg, rv, h1, h2, h3, h4, h5⟩ := h.ex
  have c0 : w.cell? ⟨b, 0, none⟩ = some (.map (some mg)) := Has.cell h1 0
  have HK : Hid (∀ w', MapP w' mg m (upd x.p k 0) → w.grownBy w' (some mg) → BdS w' F b m (x.forget k) ∧ Kp F w w') := Lib.hid fun w' hM g => by
    obtain ⟨a1, a2, _⟩ := BdS.turn h1 h2 h3 h4 h5 h.on hM g (h.ok.forget k)
    exact ⟨a1, a2⟩
  clear h1 h3 h4 h5 h
  go_enter Try.func15, Try.ntmps15
  go_wp2_with (with_reducible refine mapp_del rfl _ _ rfl k rfl rfl h2 hk ?_; intro w' hM g)
  go_end0
  exact ⟨rfl, HK.out _ hM g⟩
theorem new_at (w : World) : Calls Try.prog 9 #[] w fun e w' => ∃ b, e = .returned (.pointer (some ⟨b, 0, none⟩)) ∧ w.heap.size ≤ b ∧ BdS w' (fun i => w.heap.size ≤ i ∧ i < w'.heap.size) b 0 Bd.new ∧ Below w.heap.size w w' := by
  have hmk : (Instr.makeMap 46 none).run Try.prog w = .ok (.map (some w.heap.size)) (w.alloc (.map #[] 0)) := by kernel_rfl
  have hM := MapP.made w
  have hB : Below w.heap.size w (w.alloc (.map #[] 0)) := (Below.refl _ _).alloc (Nat.le_refl _) _
  go_enter Try.func9, Try.ntmps9
  go_wp2_with fail
  go_ret
  have hB2 := hB.alloc hB.size (.cells (bdA w.heap.size (.slice none 0 0)) 48)
  have hH := Has.new (w := w.alloc (.map #[] 0)) (bdA w.heap.size (.slice none 0 0)) 48
  have hM2 := hM.on (Below.heap_alloc _ (.cells (bdA w.heap.size (.slice none 0 0)) 48) _ hM.lt)
  have e : (w.alloc (.map #[] 0)).heap.size = w.heap.size + 1 := by simp
  rw [e] at hH
  exact ⟨_, rfl, Nat.le_succ _, ⟨⟨w.heap.size, .slice none 0 0, hH, hM2, World.ownsRow_nil _ _ _ _, ⟨Nat.le_refl _, hM2.lt⟩, fun k hk => by cases hk⟩, ⟨Nat.le_succ _, hH.lt⟩, Sr.Bd.new_ok⟩, hB2⟩
end
end Go.Proofs.Ytehineieklpgoaa.An
