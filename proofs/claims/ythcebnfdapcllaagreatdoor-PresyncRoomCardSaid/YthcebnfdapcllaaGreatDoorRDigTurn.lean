import Derived.Test.YthcebnfdapcllaaGreatDoorRows
import Derived.Test.YthcebnfdapcllaaGreatDoorRBunQ2
import Derived.Lib.Hide
namespace Go.Proofs.YthcebnfdapcllaaGreatDoor
open Go.RowKit
attribute [local go_sem] Wd.add Wd.and Wd.or Wd.xor Wd.shl Wd.shr Wd.shl8 Wd.shr3 Wd.shr10
set_option maxHeartbeats 400000 in
theorem rot (x : BitVec 32) (k : Int) (s : Nat) (hs : s < 32) (hk : bits .and .u64 (IntKind.u64.wrap k) 31 = (s : Int)) (w : World) :
    Calls Tryz.prog 156 #[.int .u32 (Wd.n x), .int .i64 k] w fun e w' => e = .returned (.int .u32 (Wd.n (x.rotateLeft s))) ∧ w = w' := by
  go_enter Tryz.func156, Tryz.ntmps156
  go_wp2
  go_ret
  refine ⟨?_, rfl⟩
  rw [BitVec.rotateLeft_def, Nat.mod_eq_of_lt hs]
  rfl
theorem turned (x : BitVec 32) (k : Int) (h1 : 0 < k) (h2 : k < 32) (w : World) :
    Calls Tryz.prog 149 #[.int .u32 (Wd.n x), .int .i64 k] w fun e w' => e = .returned (.int .u32 (Wd.n (x.rotateRight k.toNat))) ∧ w = w' := by
  have hk : bits .and .u64 (IntKind.u64.wrap (-k)) 31 = ((32 - k.toNat : Nat) : Int) := Wd.neg31 k h1 h2
  have H := Lib.hid hk
  clear hk
  go_enter Tryz.func149, Tryz.ntmps149
  go_wp2_with (go_at_call 156; (with_reducible refine (rot _ _ _ (by omega) H.out _).mono ?_); rintro e w' ⟨rfl, rfl⟩)
  go_ret
  refine ⟨?_, rfl⟩
  rw [← Wd.left_right x k h1 h2]
  rfl
theorem three (x : BitVec 32) (a b c : Int) (ha : 0 < a) (ha2 : a < 32) (hb : 0 < b) (hb2 : b < 32) (hc : 0 < c) (hc2 : c < 32) (w : World) :
    Calls Tryz.prog 139 #[.int .u32 (Wd.n x), .int .i64 a, .int .i64 b, .int .i64 c] w fun e w' => e = .returned (.int .u32 (Wd.n (x.rotateRight a.toNat ^^^ x.rotateRight b.toNat ^^^ x.rotateRight c.toNat))) ∧ w = w' := by
  go_enter Tryz.func139, Tryz.ntmps139
  go_wp2_with (go_at_call 149; (with_reducible refine (turned _ _ (by omega) (by omega) _).mono ?_); rintro e w' ⟨rfl, rfl⟩)
  go_ret
  exact ⟨rfl, rfl⟩
end Go.Proofs.YthcebnfdapcllaaGreatDoor
