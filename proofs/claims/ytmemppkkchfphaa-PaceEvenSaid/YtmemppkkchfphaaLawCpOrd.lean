import Derived.Test.YtmemppkkchfphaaCpAlive
import Derived.Test.YtmemppkkchfphaaCpRefEnc
import Derived.Test.YtmemppkkchfphaaRefLess
namespace Go.Proofs.Ytmemppkkchfphaa
open Go.RowKit
theorem dec_enc_call (x : Nat) (hx : x < Nm.big) (w : World) : Calls Try.prog 33 #[.int .i64 (Nm.enc x : Nat)] w fun e w' => e = .returned (.tuple #[.agg (numC (Nm.rd x)), .bool false, .bool false]) ∧ Below w.heap.size w w' := by
  have h := decode_yes (Nm.enc x) (Nm.enc_lt hx) w
  rwa [Nm.dec_enc hx, Nm.enc_low, Nm.enc_over hx] at h
theorem ref_less_is (x y : Nat) (hx : x < Nm.big) (hy : y < Nm.big) (g : Bool) (hg : decide (x < y) = g) (w : World) : Calls Try.prog 12 #[.agg (numC x), .agg (numC y)] w fun e w' => e = .returned (.bool g) ∧ Below w.heap.size w w' := by
  rw [← hg]; exact ref_less x y hx hy w
end Go.Proofs.Ytmemppkkchfphaa
