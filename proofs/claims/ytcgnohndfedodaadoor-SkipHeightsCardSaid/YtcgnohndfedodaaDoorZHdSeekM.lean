/-
  Plain mathematics: what Seek answers; a header's name as a number.
-/
import Derived.Test.YtcgnohndfedodaaDoorBunQ10
import Derived.Test.YtcgnohndfedodaaDoorBunQ19
namespace Go.Proofs.YtcgnohndfedodaaDoor
/-- a header with the number that is tried next -/
def Hd.nxt (h : Hd) : Hd := { h with nonce := (h.nonce + 1) % 4294967296 }
/-- the header behind k tries -/
def Hd.at (h : Hd) : Nat → Hd
  | 0 => h
  | k + 1 => (h.at k).nxt
def byteF (l : List UInt8) (i : Nat) : Nat := (l.getD i 0).toNat
theorem byteF_lt (l : List UInt8) (i : Nat) : byteF l i < 256 := UInt8.toNat_lt _
/-- a name as a number -/
def numOf (l : List UInt8) : Nat := NN.Nm.unbytes (byteF l) 32
theorem numOf_lt (l : List UInt8) : numOf l < NN.Nm.big := NN.Nm.unbytes_lt _ (byteF_lt l) 32
theorem Hd.at_ok {h : Hd} (ho : h.ok) : ∀ k, (h.at k).ok
  | 0 => ho
  | k + 1 => Hd.at_ok ho k
theorem Hd.at_P {h : Hd} (hp : h.P) : ∀ k, (h.at k).P
  | 0 => hp
  | k + 1 => by
    obtain ⟨a1, a2, a3, a4, a5, a6, a7, a8⟩ := Hd.at_P hp k
    exact ⟨a1, a2, a3, a4, a5, a6, by show 0 ≤ ((h.at k).nonce + 1) % 4294967296; omega, by show ((h.at k).nonce + 1) % 4294967296 ≤ 4294967295; omega⟩
theorem Hd.at_next (h : Hd) (k : Nat) : h.at (k + 1) = { h.at k with nonce := ((h.at k).nonce + 1) % 4294967296 } := rfl
/-- all but the number -/
theorem Hd.at_same (h : Hd) : ∀ k, { h.at k with nonce := h.nonce } = h
  | 0 => rfl
  | k + 1 => Hd.at_same h k
/-- the target of a header's bits; whether it is below 0; too great -/
def Hd.tgt (h : Hd) : Nat := NN.Nm.decN h.bits.toNat
def Hd.bad (h : Hd) : Prop := ¬ h.P ∨ NN.Nm.decLow h.bits.toNat = true ∨ NN.Nm.decOver h.bits.toNat = true
/-- a header's name, as a number, is above a target -/
def Hd.above (h : Hd) (k : Nat) : Prop := h.tgt < numOf (h.at k).id
instance (h : Hd) (k : Nat) : Decidable (h.above k) := Nat.decLt _ _
/-- some try is the first that does, or none does -/
theorem first_or_none (p : Nat → Prop) [DecidablePred p] : ∀ n, (∃ k, k < n ∧ ¬ p k ∧ ∀ j, j < k → p j) ∨ ∀ j, j < n → p j
  | 0 => .inr fun j hj => by omega
  | n + 1 => by
    rcases first_or_none p n with ⟨k, hk, h1, h2⟩ | h
    · exact .inl ⟨k, by omega, h1, h2⟩
    · by_cases hn : p n
      · exact .inr fun j hj => by
          by_cases e : j = n
          · rw [e]; exact hn
          · exact h j (by omega)
      · exact .inl ⟨n, by omega, hn, h⟩
theorem Hd.good_parts {h : Hd} (hb : ¬ h.bad) : h.P ∧ NN.Nm.decLow h.bits.toNat = false ∧ NN.Nm.decOver h.bits.toNat = false := by
  unfold Hd.bad at hb
  refine ⟨Classical.byContradiction fun hp => hb (.inl hp), ?_, ?_⟩
  · cases e : NN.Nm.decLow h.bits.toNat
    · rfl
    · exact absurd (.inr (.inl e)) hb
  · cases e : NN.Nm.decOver h.bits.toNat
    · rfl
    · exact absurd (.inr (.inr e)) hb
end Go.Proofs.YtcgnohndfedodaaDoor
