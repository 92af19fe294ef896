import Derived.Test.YtkbjaadjnbgfbaaGreatDoorBBunQ10
set_option maxRecDepth 100000
set_option maxHeartbeats 4000000
namespace Go.Proofs.YtkbjaadjnbgfbaaGreatDoor
open Go.RowKit Mem Sc
theorem yK(x y:List UInt8)(hx:x.length=32)(hy:y.length=32)(d:Nat)(w:World):(Op.equalIn (d+2) 28 (.agg (ae x)) (.agg (ae y))).run Tryz.prog w=.ok (x==y) w:=
 run_equalIn_bytes (P:=Tryz.prog) w d 28 5 32 Tryz.underlying28 Tryz.underlying5 BW x y hx hy
theorem eq_int(a b:Int)(d:Nat)(w:World):(Op.equalIn (d+1) 3 (i_ a) (i_ b)).run Tryz.prog w=.ok (a==b) w:=
 run_equalIn_int w d 3 .i64 .i64 a b Tryz.underlying3
theorem Bj(a b:Hd):(a=b)↔(a.v=b.v/\a.prev=b.prev/\a.root=b.root/\a.time=b.time/\a.bits=b.bits/\a.R5=b.R5):=by obtain⟨a1,a2,a3,a4,a5,a6⟩:=a;obtain⟨b1,b2,b3,b4,b5,b6⟩:=b;simp
instance (a b:Hd):Decidable (a=b):=decidable_of_iff _ (Bj a b).symm
theorem r_(x y:List UInt8)(hx:x.length=32)(hy:y.length=32)(g:Bool)(hg:(x==y)=g)(w:World):(binOp .eql 28 (.agg (ae x)) (.agg (ae y))).run Tryz.prog w=.ok (.bool g) w:=by rw[run_eql_struct,show(10000:Nat)=9998+2 from rfl,yK x y hx hy,hg];rfl
theorem jg(x y:List UInt8)(hx:x.length=32)(hy:y.length=32)(g:Bool)(hg:(!(x==y))=g)(w:World):(binOp .neq 28 (.agg (ae x)) (.agg (ae y))).run Tryz.prog w=.ok (.bool g) w:=by rw[run_neq_struct,show(10000:Nat)=9998+2 from rfl,yK x y hx hy,<-hg];rfl
