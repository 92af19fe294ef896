import Derived.Test.YtkbjaadjnbgfbaaGreatDoorHIda
import Derived.Test.YtkbjaadjnbgfbaaGreatDoorHIdq
import Derived.Test.YtkbjaadjnbgfbaaGreatDoorRows
import Derived.Test.YtkbjaadjnbgfbaaGreatDoorHBunQ0
set_option maxRecDepth 100000
set_option maxHeartbeats 4000000
namespace Go.Proofs.YtkbjaadjnbgfbaaGreatDoor
open Go.RowKit
attribute [local go_sem] Wd.add Wd.and Wd.or Wd.xor Wd.shl Wd.shr Wd.rX Wd.rU Wd.nS
theorem Vj(x:BitVec 32)(k:Int)(s:Nat)(hs:s<32)(hk:bits .and .u64 (IntKind.u64.wrap k) 31=(s:Int))(w:World):Calls Tryz.prog 255 #[.int .u32 (Wd.n x),i_ k] w fun e w'=>e=.returned (.int .u32 (Wd.n (x.rotateLeft s)))/\w=w':=by
 go_enter Tryz.func255,Tryz.ntmps255;go_wp2
 go_ret;refine⟨?_,rfl⟩;rw[BitVec.rotateLeft_def,bp hs];rfl
theorem sL(x:BitVec 32)(k:Int)(h1:0<k)(h2:k<32)(w:World):Calls Tryz.prog 249 #[.int .u32 (Wd.n x),i_ k] w fun e w'=>e=.returned (.int .u32 (Wd.n (x.rotateRight k.toNat)))/\w=w':=by
 have hk:bits .and .u64 (IntKind.u64.wrap (-k)) 31=((32-k.toNat:Nat):Int):=Wd.Kh k h1 h2;have H:=h_ hk;clear hk;go_enter Tryz.func249,Tryz.ntmps249;go_wp2_with (go_at_call 255;(with_reducible refine(Vj _ _ _ (by omega) H.out _).mono ?_);rintro e w' ⟨rfl,rfl⟩)
 go_ret;refine⟨?_,rfl⟩;rw[<-Wd.UZ x k h1 h2];rfl
theorem three(x:BitVec 32)(a b c:Int)(ha:0<a)(ha2:a<32)(hb:0<b)(hb2:b<32)(hc:0<c)(hc2:c<32)(w:World):Calls Tryz.prog 235 #[.int .u32 (Wd.n x),i_ a,i_ b,i_ c] w fun e w'=>e=.returned (.int .u32 (Wd.n (x.rotateRight a.toNat^^^x.rotateRight b.toNat^^^x.rotateRight c.toNat)))/\w=w':=by
 go_enter Tryz.func235,Tryz.ntmps235;go_wp2_with (go_at_call 249;(with_reducible refine(sL _ _ (by omega) (by omega) _).mono ?_);rintro e w' ⟨rfl,rfl⟩)
 go_ret;exact⟨rfl,rfl⟩
