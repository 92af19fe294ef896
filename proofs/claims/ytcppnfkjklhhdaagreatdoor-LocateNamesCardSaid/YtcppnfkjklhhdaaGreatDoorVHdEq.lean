import Derived.Test.YtcppnfkjklhhdaaGreatDoorVBunQ10
import Derived.Laws.StructEq
set_option maxRecDepth 100000
set_option maxHeartbeats 4000000
namespace Go.Proofs.YtcppnfkjklhhdaaGreatDoor
open Go.RowKit Mem Sc
theorem qadc_:Tryz.prog.eqGuardType Tryz.prog.depth 30=false:=by kernel_rfl
theorem qck_ (cs:Array Value) (o:Nat) (v:Value) (h:cs[o]?=some v) (w:World):(part 3 cs o).run Tryz.prog w = .ok v w:=by
 simp[part,h]
theorem qgc_ (cs:Array Value) (o:Nat) (l:List UInt8) (h:cs.extract o (o+32)=bytesV l) (w:World):(part 28 cs o).run Tryz.prog w = .ok (.agg (bytesV l)) w:=by
 simp[part,h]
theorem qaae_ (h:Hd) (ho:h.ok):(hdA h).extract 1 33=bytesV h.prev:=by
 apply Array.toList_inj.1
 rw[qag_,Array.toList_extract]
 show ((hdC h).drop 1).take (33 - 1)=_
 show (Lib.byteCells h.prev ++ _).take 32=_
 exact List.take_left' (qe_ ho.1)
theorem qaaf_ (h:Hd) (ho:h.ok):(hdA h).extract 33 65=bytesV h.root:=by
 apply Array.toList_inj.1
 rw[qag_,Array.toList_extract]
 show ((hdC h).drop 33).take (65 - 33)=_
 have e:(hdC h).drop 33=Lib.byteCells h.root ++ [.int .i64 h.time,.int .i64 h.bits,.int .i64 h.nonce]:=by
  show (Lib.byteCells h.prev ++ _).drop 32=_
  exact List.drop_left' (qe_ ho.1)
 rw[e]
 exact List.take_left' (qe_ ho.2)
theorem qic_ (h:Hd) (ho:h.ok) (j:Nat):(hdA h)[65+j]?=[Value.int .i64 h.time,.int .i64 h.bits,.int .i64 h.nonce][j]?:=by
 show (hdC h).toArray[65+j]?=_
 rw[List.getElem?_toArray]
 exact qgu_ ho j
theorem qod_ (x y:List UInt8) (hx:x.length=32) (hy:y.length=32) (d:Nat) (w:World):(Op.equalIn (d+2) 28 (.agg (bytesV x)) (.agg (bytesV y))).run Tryz.prog w = .ok (x==y) w :=
 run_equalIn_bytes (P:=Tryz.prog) w d 28 5 32 Tryz.underlying28 Tryz.underlying5 hsize1 x y hx hy
theorem eq_int (a b:Int) (d:Nat) (w:World):(Op.equalIn (d+1) 3 (.int .i64 a) (.int .i64 b)).run Tryz.prog w = .ok (a==b) w :=
 run_equalIn_int w d 3 .i64 .i64 a b Tryz.underlying3
theorem hd_ext (a b:Hd):(a=b) ↔ (a.v=b.v/\a.prev=b.prev/\a.root=b.root/\a.time=b.time/\a.bits=b.bits/\a.nonce=b.nonce):=by
 obtain ⟨a1,a2,a3,a4,a5,a6⟩:=a
 obtain ⟨b1,b2,b3,b4,b5,b6⟩:=b
 simp
instance (a b:Hd):Decidable (a=b):=decidable_of_iff _ (hd_ext a b).symm
theorem qadd_ (a b:Hd) (ha:a.ok) (hb:b.ok) (w:World):(Op.equalIn 10000 30 (.agg (hdA a)) (.agg (hdA b))).run Tryz.prog w = .ok (decide (a=b)) w:=by
 have hS:Tryz.prog.underlying 30=some (.struct (Tryz.prog.fieldsOf 30)):=by kernel_rfl
 rw[show (10000:Nat)=9999+1 from rfl,run_equalIn_agg w 9999 30 _ _ hS (by kernel_rfl)]
 simp only[Program.fieldsOf,Tryz.underlying30]
 have pa0:=qck_ (hdA a) 0 (.int .i64 a.v) rfl
 have pb0:=qck_ (hdA b) 0 (.int .i64 b.v) rfl
 have pa1:=qgc_ (hdA a) 1 a.prev (qaae_ a ha)
 have pb1:=qgc_ (hdA b) 1 b.prev (qaae_ b hb)
 have pa2:=qgc_ (hdA a) 33 a.root (qaaf_ a ha)
 have pb2:=qgc_ (hdA b) 33 b.root (qaaf_ b hb)
 have pa3:=qck_ (hdA a) 65 (.int .i64 a.time) (qic_ a ha 0)
 have pb3:=qck_ (hdA b) 65 (.int .i64 b.time) (qic_ b hb 0)
 have pa4:=qck_ (hdA a) 66 (.int .i64 a.bits) (qic_ a ha 1)
 have pb4:=qck_ (hdA b) 66 (.int .i64 b.bits) (qic_ b hb 1)
 have pa5:=qck_ (hdA a) 67 (.int .i64 a.nonce) (qic_ a ha 2)
 have pb5:=qck_ (hdA b) 67 (.int .i64 b.nonce) (qic_ b hb 2)
 have q1:=qod_ a.prev b.prev ha.1 hb.1 9997
 have q2:=qod_ a.root b.root ha.2 hb.2 9997
 have q0:=fun x y=>eq_int x y 9998
 have hdec:decide (a=b)=(a.v==b.v && (a.prev==b.prev && (a.root==b.root && (a.time==b.time && (a.bits==b.bits && a.nonce==b.nonce))))):=by
  rw[Bool.eq_iff_iff]
  simp only[decide_eq_true_eq,Bool.and_eq_true,beq_iff_eq]
  exact hd_ext a b
 rw[hdec]
 simp only[Op.eqFields,ne_eq,String.reduceEq,not_false_eq_true,if_true,Sem.run_bind,Sem.run_ite,Sem.run_pure,Result.andThen_ok,pa0,pb0,pa1,pb1,pa2,pb2,pa3,pb3,pa4,pb4,pa5,pb5,q0,q1,q2]
 clear hdec pa0 pb0 pa1 pb1 pa2 pb2 pa3 pb3 pa4 pb4 pa5 pb5 q0 q1 q2
 generalize (a.v==b.v)=x0
 generalize (a.prev==b.prev)=x1
 generalize (a.root==b.root)=x2
 generalize (a.time==b.time)=x3
 generalize (a.bits==b.bits)=x4
 generalize (a.nonce==b.nonce)=x5
 cases x0
 ·rfl
 cases x1
 ·rfl
 cases x2
 ·rfl
 cases x3
 ·rfl
 cases x4
 ·rfl
 cases x5
 ·rfl
 rfl
theorem hd_neq (a b:Hd) (ha:a.ok) (hb:b.ok) (g:Bool) (hg:(!decide (a=b))=g) (w:World):(binOp .neq 30 (.agg (hdA a)) (.agg (hdA b))).run Tryz.prog w = .ok (.bool g) w:=by
 rw[run_neq_struct,qadd_ a b ha hb,<-hg];rfl
theorem hn_eql (x y:List UInt8) (hx:x.length=32) (hy:y.length=32) (g:Bool) (hg:(x==y)=g) (w:World):(binOp .eql 28 (.agg (bytesV x)) (.agg (bytesV y))).run Tryz.prog w = .ok (.bool g) w:=by
 rw[run_eql_struct,show (10000:Nat)=9998+2 from rfl,qod_ x y hx hy,hg];rfl
theorem hn_neq (x y:List UInt8) (hx:x.length=32) (hy:y.length=32) (g:Bool) (hg:(!(x==y))=g) (w:World):(binOp .neq 28 (.agg (bytesV x)) (.agg (bytesV y))).run Tryz.prog w = .ok (.bool g) w:=by
 rw[run_neq_struct,show (10000:Nat)=9998+2 from rfl,qod_ x y hx hy,<-hg];rfl
theorem qpv_ {C:World->Prop} {a:Act} {o:Oper} {K:Act->Prop} (t':TypeId) (x y:Operand) (ho:o.op = .binOp .neq 30 x y t') (xs ys:Array Value) (v:Value) (hx:a.eval x = .agg xs) (hy:a.eval y = .agg ys)
  (hq:∀ w,(binOp .neq 30 (.agg xs) (.agg ys)).run Tryz.prog w = .ok v w) (hk:K (a.put o.dst v)):o.quiet Tryz.prog a C K :=
 ⟨_,fun w' hw'=>by
  unfold Oper.quietAt
  have this:(execOp a.eval o).run Tryz.prog w' = .ok (.value v) w':=by
   unfold execOp
   simp only[ho,hx,hy,Sem.run_bind,Sem.run_pure,run_eqGuard_agg w' .neq 30 x y xs ys qadc_,Result.andThen_ok,hq]
  rw[this]
  exact ⟨rfl,rfl⟩,hk⟩
theorem qka_ {C:World->Prop} {a:Act} {o:Oper} {K:Act->Prop} (t':TypeId) (x y:Operand) (ho:o.op = .binOp .eql 28 x y t') (xs ys:Array Value) (v:Value) (hx:a.eval x = .agg xs) (hy:a.eval y = .agg ys)
  (hq:∀ w,(binOp .eql 28 (.agg xs) (.agg ys)).run Tryz.prog w = .ok v w) (hk:K (a.put o.dst v)):o.quiet Tryz.prog a C K :=
 ⟨_,fun w' hw'=>by
  unfold Oper.quietAt
  have this:(execOp a.eval o).run Tryz.prog w' = .ok (.value v) w':=by
   unfold execOp
   simp only[ho,hx,hy,Sem.run_bind,Sem.run_pure,run_eqGuard_agg w' .eql 28 x y xs ys hplain,Result.andThen_ok,hq]
  rw[this]
  exact ⟨rfl,rfl⟩,hk⟩
end Go.Proofs.YtcppnfkjklhhdaaGreatDoor
