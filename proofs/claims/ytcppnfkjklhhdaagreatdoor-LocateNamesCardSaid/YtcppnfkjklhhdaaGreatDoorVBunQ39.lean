import Derived.Test.YtcppnfkjklhhdaaGreatDoorVIdm
import Derived.Test.YtcppnfkjklhhdaaGreatDoorVBunQ38
set_option maxRecDepth 100000
set_option maxHeartbeats 4000000
namespace Go.Proofs.YtcppnfkjklhhdaaGreatDoor.NN
open Go.RowKit Rg2 An
theorem qoq_ {C:World->Prop} {a:Act} {o:Oper} {K:Act->Prop} (T t':TypeId) (p:BinOp) (hT:Tryz.prog.eqGuardType Tryz.prog.depth T=false) (x y:Operand) (ho:o.op = .binOp p T x y t') (xs ys:Array Value) (v:Value) (hx:a.eval x = .agg xs) (hy:a.eval y = .agg ys)
  (hq:∀ w,(binOp p T (.agg xs) (.agg ys)).run Tryz.prog w = .ok v w) (hk:K (a.put o.dst v)):o.quiet Tryz.prog a C K :=
 ⟨_,fun w' hw'=>by
  unfold Oper.quietAt
  have this:(execOp a.eval o).run Tryz.prog w' = .ok (.value v) w':=by
   unfold execOp
   simp only[ho,hx,hy,Sem.run_bind,Sem.run_pure,run_eqGuard_agg w' p T x y xs ys hT,Result.andThen_ok,hq]
  rw[this]
  exact ⟨rfl,rfl⟩,hk⟩
theorem qor_:Tryz.prog.eqGuardType Tryz.prog.depth 26=false:=by kernel_rfl
theorem qaau_ (x y:Nat) (hx:x<Nm.big) (hy:y<Nm.big):∃ z c,z<Nm.big/\Gv_ 89 #[.agg (numC x),.agg (numC y)] (.tuple #[.agg (numC z),.bool c]):=⟨_,_,Nat.mod_lt _ qcj_,fun w=>ref_sub x y hx hy w⟩
theorem qaav_ (x y:Nat) (hx:x<Nm.big) (hy:y<Nm.big):∃ z c,z<Nm.big/\Gv_ 73 #[.agg (numC x),.agg (numC y)] (.tuple #[.agg (numC z),.bool c]):=⟨_,_,Nat.mod_lt _ qcj_,fun w=>qjl_ x y hx hy w⟩
theorem one_lt:1<Nm.big:=by rw[Nm.big_eq];exact Nat.lt_of_lt_of_le (by decide) (Nat.pow_le_pow_right (by decide) (show 1<=256 by decide))
structure OfS (w wr:World) (b1 bR b3 b4 b6 b7 t m4 o r:Nat):Prop where
 be:Below w.heap.size w wr
 a1:Has wr b1 (numC t) 26
 aR:Has wr bR (numC 0) 26
 a3:Has wr b3 (numC 1) 26
 a4:Has wr b4 (numC m4) 26
 a6:Has wr b6 (numC o) 26
 a7:Has wr b7 (numC r) 26
structure OfC (w wr:World) (b1 bR b3 b4 b7 t m4 r:Nat):Prop where
 be:Below w.heap.size w wr
 a1:Has wr b1 (numC t) 26
 aR:Has wr bR (numC 0) 26
 a3:Has wr b3 (numC 1) 26
 a4:Has wr b4 (numC m4) 26
 a7:Has wr b7 (numC r) 26
theorem OfC.on {w wr w':World} {b1 bR b3 b4 b7 t m4 r:Nat} (h:OfC w wr b1 bR b3 b4 b7 t m4 r) (hb:Below wr.heap.size wr w'):OfC w w' b1 bR b3 b4 b7 t m4 r :=
 ⟨tb_ h.be hb,h.a1.on hb,h.aR.on hb,h.a3.on hb,h.a4.on hb,h.a7.on hb⟩
theorem OfC.row {w wr:World} {b1 bR b3 b4 b7 t m4 r:Nat} (h:OfC w wr b1 bR b3 b4 b7 t m4 r) (g z:Nat) (h0:w.heap.size<=g) (h1:b1 ≠ g) (h2:bR ≠ g) (h3:b3 ≠ g) (h4:b4 ≠ g) (h5:b7 ≠ g):OfC w (wr.setRow g (numC z)) b1 bR b3 b4 b7 t m4 r :=
 ⟨below_setRow h.be h0 _,h.a1.otherRow _ _ h1,h.aR.otherRow _ _ h2,h.a3.otherRow _ _ h3,h.a4.otherRow _ _ h4,h.a7.otherRow _ _ h5⟩
def OfR (o z m3 o2:Nat->Value) (b:Bool):Nat->Value->Prop
 | 0,u=>u=o 0
 | 1,u=>u = .agg (numC 1)
 | 2,u=>u=z 0
 | 3,u=>u=m3 0
 | 4,u=>u = .tuple #[o2 0,.bool b]
 | 5,u=>u = .tuple #[o2 0,.bool b]
 | 6,u=>u=o2 0
 | 7,u=>u = .bool b
 | _,_=>b=b
theorem qafj_ (t:Nat) (m4:Nat) (KA:Hid (Gv_ 73 #[.agg (numC t),.agg (numC 1)] (.tuple #[.agg (numC m4),.bool true]))) (w:World) :
  Calls Tryz.prog 62 #[.agg (numC t)] w fun e w'=>∃ z,z<Nm.big/\e = .returned (.agg (numC z))/\Below w.heap.size w w':=by
 go_enter Tryz.func62,Tryz.ntmps62
 go_upto_region 1 with fail
 generalize hw0:World.alloc _ _=v0
 have hbel:Below w.heap.size w v0:=by rw[<-hw0];exact ((Below.refl _ _).alloc (Nat.le_refl _) _).alloc (by simp) _
 have h1:Has v0 w.heap.size (numC t) 26:=by rw[<-hw0];exact (Has.new _ _).alloc _
 have hR:Has v0 (w.heap.size+1) (numC 0) 26:=by rw[<-hw0];exact Has.new1 _ (numC 0) _
 clear hw0
 obtain ⟨b_1,e_1⟩:∃ x,x=w.heap.size:=⟨_,rfl⟩
 obtain ⟨b_R,e_R⟩:∃ x,x=w.heap.size+1:=⟨_,rfl⟩
 rw[<-e_R] at hR |-
 rw[<-e_1] at h1 |-
 have NR:Hid (w.heap.size<=b_R/\b_1<b_R):=h_ (by omega)
 clear e_1 e_R
 have q1:=hR.lt
 go_upto_region 2 with (with_reducible first|refine qb_ rfl _ rfl _ rfl _ (by assumption) rfl ?_|refine qz_ rfl _ _ rfl _ 1 _ rfl rfl one4w _ (Has.newz _) rfl ?_)
 generalize hw1:World.setRow _ _ _=v1
 have hb1:Below v0.heap.size v0 v1:=bw_ hw1
 have h3:Has v1 v0.heap.size (numC 1) 26:=by rw[<-hw1];exact (Has.newz _).row _
 replace h1:=h1.on hb1
 replace hR:=hR.on hb1
 replace hbel:=tb_ hbel hb1
 clear hw1 hb1
 obtain ⟨b_h3,e_h3⟩:∃ x,x=v0.heap.size:=⟨_,rfl⟩
 rw[<-e_h3] at h3 q1 |-
 clear e_h3
 have N_h3:=h_ q1
 clear q1
 go_wp2_with (first|fail|(with_reducible refine qb_ rfl _ rfl _ rfl _ (by assumption) rfl ?_))
 refine (KA.out _).mono ?_
 rintro e v2 ⟨rfl,hb2⟩
 replace h1:=h1.on hb2
 replace hR:=hR.on hb2
 replace h3:=h3.on hb2
 replace hbel:=tb_ hbel hb2
 clear hb2
 have q3:=h3.lt
 go_upto_region 3 with (with_reducible first|refine qb_ rfl _ rfl _ rfl _ (by assumption) rfl ?_|refine qc_ rfl _ _ rfl _ _ rfl rfl _ (Has.newz _) rfl ?_)
 generalize hw3:World.setRow _ _ _=v3
 have hb3:Below v2.heap.size v2 v3:=bw_ hw3
 have h4:Has v3 v2.heap.size (numC m4) 26:=by rw[<-hw3];exact (Has.newz _).row _
 replace h1:=h1.on hb3
 replace hR:=hR.on hb3
 replace h3:=h3.on hb3
 replace hbel:=tb_ hbel hb3
 clear hw3 hb3
 obtain ⟨b_h4,e_h4⟩:∃ x,x=v2.heap.size:=⟨_,rfl⟩
 rw[<-e_h4] at h4 q3 |-
 clear e_h4
 have N_h4:=h_ q3
 clear q3
 go_wp2_with (with_reducible first|refine qb_ rfl _ rfl _ rfl _ (by assumption) rfl ?_|refine qc_ rfl _ _ rfl _ _ rfl rfl _ hR rfl ?_)
 exact bodyPost_ret (v:=.agg (numC (1))) (qj_ Tryz.results62 _ _ _ rfl (hR.row _)) rfl ⟨_,one_lt,rfl,below_setRow hbel NR.out.1 _⟩
theorem qafk_ (t:Nat) (m4:Nat) (KA:Hid (Gv_ 73 #[.agg (numC t),.agg (numC 1)] (.tuple #[.agg (numC m4),.bool false]))) (hq:∀ w,(binOp .eql 26 (.agg (numC t)) (.agg #[.int .u64 0,.int .u64 0,.int .u64 0,.int .u64 0])).run Tryz.prog w = .ok (.bool true) w) (w:World) :
  Calls Tryz.prog 62 #[.agg (numC t)] w fun e w'=>∃ z,z<Nm.big/\e = .returned (.agg (numC z))/\Below w.heap.size w w':=by
 have KM:=h_ rmost
 go_enter Tryz.func62,Tryz.ntmps62
 go_upto_region 1 with fail
 generalize hw0:World.alloc _ _=v0
 have hbel:Below w.heap.size w v0:=by rw[<-hw0];exact ((Below.refl _ _).alloc (Nat.le_refl _) _).alloc (by simp) _
 have h1:Has v0 w.heap.size (numC t) 26:=by rw[<-hw0];exact (Has.new _ _).alloc _
 have hR:Has v0 (w.heap.size+1) (numC 0) 26:=by rw[<-hw0];exact Has.new1 _ (numC 0) _
 clear hw0
 obtain ⟨b_1,e_1⟩:∃ x,x=w.heap.size:=⟨_,rfl⟩
 obtain ⟨b_R,e_R⟩:∃ x,x=w.heap.size+1:=⟨_,rfl⟩
 rw[<-e_R] at hR |-
 rw[<-e_1] at h1 |-
 have NR:Hid (w.heap.size<=b_R/\b_1<b_R):=h_ (by omega)
 clear e_1 e_R
 have q1:=hR.lt
 go_upto_region 2 with (with_reducible first|refine qb_ rfl _ rfl _ rfl _ (by assumption) rfl ?_|refine qz_ rfl _ _ rfl _ 1 _ rfl rfl one4w _ (Has.newz _) rfl ?_)
 generalize hw1:World.setRow _ _ _=v1
 have hb1:Below v0.heap.size v0 v1:=bw_ hw1
 have h3:Has v1 v0.heap.size (numC 1) 26:=by rw[<-hw1];exact (Has.newz _).row _
 replace h1:=h1.on hb1
 replace hR:=hR.on hb1
 replace hbel:=tb_ hbel hb1
 clear hw1 hb1
 obtain ⟨b_h3,e_h3⟩:∃ x,x=v0.heap.size:=⟨_,rfl⟩
 rw[<-e_h3] at h3 q1 |-
 clear e_h3
 have N_h3:=h_ q1
 clear q1
 go_wp2_with (first|fail|(with_reducible refine qb_ rfl _ rfl _ rfl _ (by assumption) rfl ?_))
 refine (KA.out _).mono ?_
 rintro e v2 ⟨rfl,hb2⟩
 replace h1:=h1.on hb2
 replace hR:=hR.on hb2
 replace h3:=h3.on hb2
 replace hbel:=tb_ hbel hb2
 clear hb2
 have q3:=h3.lt
 go_upto_region 3 with (with_reducible first|refine qb_ rfl _ rfl _ rfl _ (by assumption) rfl ?_|refine qc_ rfl _ _ rfl _ _ rfl rfl _ (Has.newz _) rfl ?_)
 generalize hw3:World.setRow _ _ _=v3
 have hb3:Below v2.heap.size v2 v3:=bw_ hw3
 have h4:Has v3 v2.heap.size (numC m4) 26:=by rw[<-hw3];exact (Has.newz _).row _
 replace h1:=h1.on hb3
 replace hR:=hR.on hb3
 replace h3:=h3.on hb3
 replace hbel:=tb_ hbel hb3
 clear hw3 hb3
 obtain ⟨b_h4,e_h4⟩:∃ x,x=v2.heap.size:=⟨_,rfl⟩
 rw[<-e_h4] at h4 q3 |-
 clear e_h4
 have N_h4:=h_ q3
 clear q3
 go_wp2_with (first|fail|(with_reducible refine qb_ rfl _ rfl _ rfl _ (by assumption) rfl ?_))
 refine (KM.out _).mono ?_
 rintro e v4 ⟨rfl,hb4⟩
 replace h1:=h1.on hb4
 replace hR:=hR.on hb4
 replace h3:=h3.on hb4
 replace h4:=h4.on hb4
 replace hbel:=tb_ hbel hb4
 clear hb4
 go_wp2_with (with_reducible first|refine qb_ rfl _ rfl _ rfl _ (by assumption) rfl ?_|refine qc_ rfl _ _ rfl _ _ rfl rfl _ hR rfl ?_)
 exact bodyPost_ret (v:=.agg (numC (Nm.big - 1))) (qj_ Tryz.results62 _ _ _ rfl (hR.row _)) rfl ⟨_,(by have:=qcj_;omega),rfl,below_setRow hbel NR.out.1 _⟩
theorem qafl_ (t:Nat) (ht:t<Nm.big) (m4:Nat) (KA:Hid (Gv_ 73 #[.agg (numC t),.agg (numC 1)] (.tuple #[.agg (numC m4),.bool false]))) (hm4:m4<Nm.big) (hq:∀ w,(binOp .eql 26 (.agg (numC t)) (.agg #[.int .u64 0,.int .u64 0,.int .u64 0,.int .u64 0])).run Tryz.prog w = .ok (.bool false) w) (w:World) :
  Calls Tryz.prog 62 #[.agg (numC t)] w fun e w'=>∃ z,z<Nm.big/\e = .returned (.agg (numC z))/\Below w.heap.size w w':=by
 have KM:=h_ rmost
 go_enter Tryz.func62,Tryz.ntmps62
 go_upto_region 1 with fail
 generalize hw0:World.alloc _ _=v0
 have hbel:Below w.heap.size w v0:=by rw[<-hw0];exact ((Below.refl _ _).alloc (Nat.le_refl _) _).alloc (by simp) _
 have h1:Has v0 w.heap.size (numC t) 26:=by rw[<-hw0];exact (Has.new _ _).alloc _
 have hR:Has v0 (w.heap.size+1) (numC 0) 26:=by rw[<-hw0];exact Has.new1 _ (numC 0) _
 clear hw0
 obtain ⟨b_1,e_1⟩:∃ x,x=w.heap.size:=⟨_,rfl⟩
 obtain ⟨b_R,e_R⟩:∃ x,x=w.heap.size+1:=⟨_,rfl⟩
 rw[<-e_R] at hR |-
 rw[<-e_1] at h1 |-
 have NR:Hid (w.heap.size<=b_R/\b_1<b_R):=h_ (by omega)
 clear e_1 e_R
 have q1:=hR.lt
 go_upto_region 2 with (with_reducible first|refine qb_ rfl _ rfl _ rfl _ (by assumption) rfl ?_|refine qz_ rfl _ _ rfl _ 1 _ rfl rfl one4w _ (Has.newz _) rfl ?_)
 generalize hw1:World.setRow _ _ _=v1
 have hb1:Below v0.heap.size v0 v1:=bw_ hw1
 have h3:Has v1 v0.heap.size (numC 1) 26:=by rw[<-hw1];exact (Has.newz _).row _
 replace h1:=h1.on hb1
 replace hR:=hR.on hb1
 replace hbel:=tb_ hbel hb1
 clear hw1 hb1
 obtain ⟨b_h3,e_h3⟩:∃ x,x=v0.heap.size:=⟨_,rfl⟩
 rw[<-e_h3] at h3 q1 |-
 clear e_h3
 have N_h3:=h_ q1
 clear q1
 go_wp2_with (first|fail|(with_reducible refine qb_ rfl _ rfl _ rfl _ (by assumption) rfl ?_))
 refine (KA.out _).mono ?_
 rintro e v2 ⟨rfl,hb2⟩
 replace h1:=h1.on hb2
 replace hR:=hR.on hb2
 replace h3:=h3.on hb2
 replace hbel:=tb_ hbel hb2
 clear hb2
 have q3:=h3.lt
 go_upto_region 3 with (with_reducible first|refine qb_ rfl _ rfl _ rfl _ (by assumption) rfl ?_|refine qc_ rfl _ _ rfl _ _ rfl rfl _ (Has.newz _) rfl ?_)
 generalize hw3:World.setRow _ _ _=v3
 have hb3:Below v2.heap.size v2 v3:=bw_ hw3
 have h4:Has v3 v2.heap.size (numC m4) 26:=by rw[<-hw3];exact (Has.newz _).row _
 replace h1:=h1.on hb3
 replace hR:=hR.on hb3
 replace h3:=h3.on hb3
 replace hbel:=tb_ hbel hb3
 clear hw3 hb3
 obtain ⟨b_h4,e_h4⟩:∃ x,x=v2.heap.size:=⟨_,rfl⟩
 rw[<-e_h4] at h4 q3 |-
 clear e_h4
 have N_h4:=h_ q3
 clear q3
 have q4:=h4.lt
 go_upto_region 8 with (with_reducible first|refine qb_ rfl _ rfl _ rfl _ (by assumption) rfl ?_|refine qz_ rfl _ _ rfl _ 0 _ rfl rfl zero4 _ (Has.newz _) rfl ?_)
 generalize hw4:World.setRow _ _ _=v4
 have hb4:Below v3.heap.size v3 v4:=bw_ hw4
 have h6:Has v4 v3.heap.size (numC 0) 26:=by rw[<-hw4];exact (Has.newz _).row _
 replace h1:=h1.on hb4
 replace hR:=hR.on hb4
 replace h3:=h3.on hb4
 replace h4:=h4.on hb4
 replace hbel:=tb_ hbel hb4
 clear hw4 hb4
 obtain ⟨b_h6,e_h6⟩:∃ x,x=v3.heap.size:=⟨_,rfl⟩
 rw[<-e_h6] at h6 q4 |-
 clear e_h6
 have N_h6:=h_ q4
 clear q4
 go_wp2_with (first|fail|(with_reducible refine qb_ rfl _ rfl _ rfl _ (by assumption) rfl ?_))
 refine (KM.out _).mono ?_
 rintro e v5 ⟨rfl,hb5⟩
 replace h1:=h1.on hb5
 replace hR:=hR.on hb5
 replace h3:=h3.on hb5
 replace h4:=h4.on hb5
 replace h6:=h6.on hb5
 replace hbel:=tb_ hbel hb5
 clear hb5
 have q6:=h6.lt
 go_upto_region 9 with (with_reducible first|refine qb_ rfl _ rfl _ rfl _ (by assumption) rfl ?_|refine qc_ rfl _ _ rfl _ _ rfl rfl _ (Has.newz _) rfl ?_)
 generalize hw6:World.setRow _ _ _=v6
 have hb6:Below v5.heap.size v5 v6:=bw_ hw6
 have h7:Has v6 v5.heap.size (numC (Nm.big - 1)) 26:=by rw[<-hw6];exact (Has.newz _).row _
 replace h1:=h1.on hb6
 replace hR:=hR.on hb6
 replace h3:=h3.on hb6
 replace h4:=h4.on hb6
 replace h6:=h6.on hb6
 replace hbel:=tb_ hbel hb6
 clear hw6 hb6
 obtain ⟨b_h7,e_h7⟩:∃ x,x=v5.heap.size:=⟨_,rfl⟩
 rw[<-e_h7] at h7 q6 |-
 clear e_h7
 have N_h7:=h_ q6
 clear q6
 have ND:Hid (b_1<b_R/\b_R<b_h3/\b_h3<b_h4/\b_h4<b_h6/\b_h6<b_h7/\w.heap.size<=b_R):=h_ ⟨NR.out.2,N_h3.out,N_h4.out,N_h6.out,N_h7.out,NR.out.1⟩
 have hs:OfS w v6 b_1 b_R b_h3 b_h4 b_h6 b_h7 t m4 0 (Nm.big - 1):=⟨hbel,h1,hR,h3,h4,h6,h7⟩
 have HM4:=h_ hm4
 have HTT:=h_ ht
 clear hbel h1 hR h3 h4 h6 h7 N_h3 N_h4 N_h6 N_h7 NR hq KA hm4 ht
 go_wp2_with fail
 go_loopw [8] (fun i wr=>∃ (k:Nat) (z:Int) (o r:Nat),k<=256/\i = .int .i64 z/\Hid (z=255 - (k:Int)/\o<Nm.big/\r<Nm.big)/\OfS w wr b_1 b_R b_h3 b_h4 b_h6 b_h7 t m4 o r) (fun i _=>((intOf i)+1).toNat)
 case atStart=>exact ⟨0,255,0,Nm.big - 1,by omega,rfl,h_ ⟨by omega,qcj_,by have:=qcj_;omega⟩,hs⟩
 case round=>
  clear hs
  obtain ⟨k,z,o,r,hk,rfl,HZ,hs⟩:=hrel
  obtain ⟨hbel,h1,hR,h3,h4,h6,h7⟩:=hs
  by_cases hlt:k<256
  ·have hz0:¬z<0:=by have:=HZ.out.1;omega
   have hz1:0<=z:=by omega
   have hz2:z<=255:=by have:=HZ.out.1;omega
   obtain ⟨d,hd,KD0⟩:=qls_ m4 HM4.out z (by omega) (by omega)
   obtain ⟨nz,hnz⟩:∃ nz,nz = -z:=⟨_,rfl⟩
   obtain ⟨m2,hm2,KM20⟩:=qls_ d hd nz (by omega) (by omega)
   obtain ⟨s,c,hsb,KS0⟩:=qaau_ d 1 hd one_lt
   obtain ⟨r2,c2,hr2,KS20⟩:=qaau_ r d HZ.out.2.2 hd
   obtain ⟨m3,hm3,KM30⟩:=qls_ 1 one_lt z (by omega) (by omega)
   obtain ⟨o2,c3,ho2,KA20⟩:=qaav_ o m3 HZ.out.2.1 hm3
   have KD:=h_ KD0
   have KM2:=h_ KM20
   have KS:=h_ KS0
   have KS2:=h_ KS20
   have KM3:=h_ KM30
   have KA2:=h_ KA20
   have KL:=h_ fun w=>qex_ r s HZ.out.2.2 hsb w
   have hq2:=fun w=>neq_num hm2 HM4.out w
   have hq3:=fun w=>qnj_ hr2 (show Nm.big - 1<Nm.big by have:=qcj_;omega) w
   have wneg:IntKind.i64.wrap (-z)=nz:=by rw[IntKind.wrap_i64];omega
   obtain ⟨z1,hz3⟩:∃ z1,z1=z - 1:=⟨_,rfl⟩
   have wsub:IntKind.i64.wrap (z - 1)=z1:=by rw[IntKind.wrap_i64];omega
   have HZ1:Hid (z1=255 - ((k+1:Nat):Int)):=h_ (by have:=HZ.out.1;omega)
   have HO2:=h_ ho2
   have HR2:=h_ hr2
   have HME:Hid (((intOf (.int .i64 z1))+1).toNat<((intOf (.int .i64 z))+1).toNat):=h_ (by simp[intOf];omega)
   generalize hg2:(!decide (m2=m4))=g2 at *
   generalize hg3:decide (r<s)=g3 at *
   generalize hg4:decide (r2=Nm.big - 1)=g4 at *
   clear KD0 KM20 KS0 KS20 KM30 KA20 hnz hz3 hz2 hd hm2 hsb hr2 hm3 ho2 hg2 hg3 hg4
   go_wp2_with (first|fail|(with_reducible refine qb_ rfl _ rfl _ rfl _ (by assumption) rfl ?_))
   refine (KD.out _).mono ?_
   rintro e v21 ⟨rfl,hb21⟩
   replace h1:=h1.on hb21
   replace hR:=hR.on hb21
   replace h3:=h3.on hb21
   replace h4:=h4.on hb21
   replace h6:=h6.on hb21
   replace h7:=h7.on hb21
   replace hbel:=tb_ hbel hb21
   clear hb21
   have q22:=h7.lt
   go_upto_region 13 with (with_reducible first|refine qb_ rfl _ rfl _ rfl _ (by assumption) rfl ?_|refine qc_ rfl _ _ rfl _ _ rfl rfl _ (Has.newz _) rfl ?_)
   generalize hw22:World.setRow _ _ _=v22
   have hb22:Below v21.heap.size v21 v22:=bw_ hw22
   have h9:Has v22 v21.heap.size (numC d) 26:=by rw[<-hw22];exact (Has.newz _).row _
   replace h1:=h1.on hb22
   replace hR:=hR.on hb22
   replace h3:=h3.on hb22
   replace h4:=h4.on hb22
   replace h6:=h6.on hb22
   replace h7:=h7.on hb22
   replace hbel:=tb_ hbel hb22
   clear hw22 hb22
   obtain ⟨b_h9,e_h9⟩:∃ x,x=v21.heap.size:=⟨_,rfl⟩
   rw[<-e_h9] at h9 q22 |-
   clear e_h9
   have N_h9:=h_ q22
   clear q22
   simp only[Act.put]
   refine wp_region_quiet_below (by kernel_rfl) (by kernel_rfl) ?_
   repeat (first
    | (go_big_quiet_want;(with_reducible first|refine qx_ _ rfl _ rfl _ h9.cls ?_|refine qx_ _ rfl _ rfl _ h4.cls ?_|refine qoq_ 26 _ .neq qor_ _ _ rfl _ _ _ rfl rfl hq2 ?_);(simp only[Act.put,List.setIfInBounds_toArray,List.set_cons_zero,List.set_cons_succ]);go_big_quiet_on)
    | go_big_quiet_step ((go_at_call 88;exact Calls.regrown_of (KM2.out _))))
   refine wpQuiet_nil ?_
   intro v30 hw'
   obtain ⟨rg,hw''⟩:=hw'
   have hb30:Below v22.heap.size v22 v30:=by rw[hw''];exact below_regrown v22 rg.d rg.os
   clear hw''
   replace h1:=h1.on hb30
   replace hR:=hR.on hb30
   replace h3:=h3.on hb30
   replace h4:=h4.on hb30
   replace h6:=h6.on hb30
   replace h7:=h7.on hb30
   replace h9:=h9.on hb30
   replace hbel:=tb_ hbel hb30
   clear hb30 hq2
   cases g2
   case true=>
    go_wp2_with fail
    go_roundw
    case rel=>exact ⟨k+1,z1,o,r,by omega,rfl,h_ ⟨HZ1.out,HZ.out.2.1,HZ.out.2.2⟩,⟨hbel,h1,hR,h3,h4,h6,h7⟩⟩
    case measure=>exact HME.out
   case false=>
    go_wp2_with (first|fail|(with_reducible refine qb_ rfl _ rfl _ rfl _ (by assumption) rfl ?_))
    refine (KS.out _).mono ?_
    rintro e v31 ⟨rfl,hb31⟩
    replace h1:=h1.on hb31
    replace hR:=hR.on hb31
    replace h3:=h3.on hb31
    replace h4:=h4.on hb31
    replace h6:=h6.on hb31
    replace h7:=h7.on hb31
    replace h9:=h9.on hb31
    replace hbel:=tb_ hbel hb31
    clear hb31
    have q32:=h9.lt
    go_upto_region 15 with (with_reducible first|refine qb_ rfl _ rfl _ rfl _ (by assumption) rfl ?_|refine qc_ rfl _ _ rfl _ _ rfl rfl _ (Has.newz _) rfl ?_)
    generalize hw32:World.setRow _ _ _=v32
    have hb32:Below v31.heap.size v31 v32:=bw_ hw32
    have h10:Has v32 v31.heap.size (numC s) 26:=by rw[<-hw32];exact (Has.newz _).row _
    replace h1:=h1.on hb32
    replace hR:=hR.on hb32
    replace h3:=h3.on hb32
    replace h4:=h4.on hb32
    replace h6:=h6.on hb32
    replace h7:=h7.on hb32
    replace h9:=h9.on hb32
    replace hbel:=tb_ hbel hb32
    clear hw32 hb32
    obtain ⟨b_h10,e_h10⟩:∃ x,x=v31.heap.size:=⟨_,rfl⟩
    rw[<-e_h10] at h10 q32 |-
    clear e_h10
    have N_h10:=h_ q32
    clear q32
    go_wp2_with (first|fail|(with_reducible refine qb_ rfl _ rfl _ rfl _ (by assumption) rfl ?_))
    refine (KL.out _).mono ?_
    rintro e v33 ⟨rfl,hb33⟩
    replace h1:=h1.on hb33
    replace hR:=hR.on hb33
    replace h3:=h3.on hb33
    replace h4:=h4.on hb33
    replace h6:=h6.on hb33
    replace h7:=h7.on hb33
    replace h9:=h9.on hb33
    replace h10:=h10.on hb33
    replace hbel:=tb_ hbel hb33
    clear hb33
    cases g3
    case true=>
     go_wp2_with fail
     go_roundw
     case rel=>exact ⟨k+1,z1,o,r,by omega,rfl,h_ ⟨HZ1.out,HZ.out.2.1,HZ.out.2.2⟩,⟨hbel,h1,hR,h3,h4,h6,h7⟩⟩
     case measure=>exact HME.out
    case false=>
     go_wp2_with (first|fail|(with_reducible refine qb_ rfl _ rfl _ rfl _ (by assumption) rfl ?_))
     refine (KS2.out _).mono ?_
     rintro e v41 ⟨rfl,hb41⟩
     replace h1:=h1.on hb41
     replace hR:=hR.on hb41
     replace h3:=h3.on hb41
     replace h4:=h4.on hb41
     replace h6:=h6.on hb41
     replace h7:=h7.on hb41
     replace h9:=h9.on hb41
     replace h10:=h10.on hb41
     replace hbel:=tb_ hbel hb41
     clear hb41
     obtain ⟨n1,n2,n3,n4,n5,n6⟩:=ND.out
     have u9:=N_h9.out
     have u10:=N_h10.out
     have h7':=h7
     go_upto_region 17 with (with_reducible first|refine qb_ rfl _ rfl _ rfl _ (by assumption) rfl ?_|refine qc_ rfl _ _ rfl _ _ rfl rfl _ h7' rfl ?_)
     have hbel2:Below w.heap.size w (v41.setRow b_h7 (numC r2)):=below_setRow hbel (by omega) _
     replace h1:=h1.otherRow b_h7 (numC r2) (by omega)
     replace hR:=hR.otherRow b_h7 (numC r2) (by omega)
     replace h3:=h3.otherRow b_h7 (numC r2) (by omega)
     replace h4:=h4.otherRow b_h7 (numC r2) (by omega)
     replace h6:=h6.otherRow b_h7 (numC r2) (by omega)
     replace h7:=h7'.row (numC r2)
     clear h9 h10 h7' hbel
     have hbel:=hbel2
     clear hbel2 N_h9 N_h10 u9 u10
     generalize World.setRow _ _ _=v50 at *
     have hP:OfC w v50 b_1 b_R b_h3 b_h4 b_h7 t m4 r2:=⟨hbel,h1,hR,h3,h4,h7⟩
     simp only[Act.put]
     clear hbel h1 hR h3 h4 h7 KS2 KL KS KD KM2
     refine qi_ (by kernel_rfl) (fun w'=>OfC w w' b_1 b_R b_h3 b_h4 b_h7 t m4 r2) (fun i v' _=>OfR (fun _=>.agg (numC o)) (fun _=>.int .i64 z) (fun _=>.agg (numC m3)) (fun _=>.agg (numC o2)) c3 i v') (fun l _ w'=>Ph 8 (fun w'=>Has w' b_h6 (numC o) 26) (fun w'=>Has w' b_h6 (numC o2) 26) l w') (fun _ _=>True) (fun _ _=>trivial) (fun _ _ _ _ _ _ h=>h) (by kernel_rfl) (hP.on (Below.refl _ _).drew) ?_ ?_ ?_
     ·exact fun l hl=>Ph.zero hl (h6.on (Below.refl _ _).drew)
     ·intro i o listed a wx ho' hnl hdep hinv
      have hC:=hinv.c
      have hI:=hinv.i
      have hi:i<9:=(Array.getElem?_eq_some_iff.1 ho').1
      obtain rfl|rfl|rfl|rfl|rfl|rfl|rfl|rfl|rfl:i=0\/i=1\/i=2\/i=3\/i=4\/i=5\/i=6\/i=7\/i=8:=by omega
      all_goals obtain rfl:=Option.some.inj ho'
      ·have hsz:=hz_ hinv 0
       have hnK:=ah_ hinv hnl 8
       have hpre:=hI.pre hnK hsz (by decide)
       exact dv_ 0 hinv (qa_ rfl) (qae_ rfl (hinv.old' 6) hpre) rfl (hI.keep hsz (by decide))
      ·have hsz:=hz_ hinv 1
       exact dv_ 1 hinv (qa_ rfl) (qae_ rfl (hinv.old' 3) hC.a3) rfl (hI.keep hsz (by decide))
      ·have hsz:=hz_ hinv 2
       exact dv_ 2 hinv (qa_ rfl) (NN.qk_ rfl) (hinv.old' 8) (hI.keep hsz (by decide))
      ·have hsz:=hz_ hinv 3
       have hnK:=ah_ hinv hnl 8
       have hpre:=hI.pre hnK hsz (by decide)
       exact dC_ (S:=T2_) 3 hinv (qa_ rfl) (f:=88) (args:=#[a.eval (.tmp 58),a.eval (.tmp 59)]) (by kernel_rfl) (by rw[show a.eval (.tmp 58)=_ from (gd_ hinv hdep 1 58)];rw[show a.eval (.tmp 59)=_ from (gd_ hinv hdep 2 59)];  exact KM3.out wx) (fun w' hb=>⟨hC.on hb,trivial,rfl,Ph.made hnK (hpre.on hb)⟩)
      ·have hsz:=hz_ hinv 4
       have hnK:=ah_ hinv hnl 8
       have hpre:=hI.pre hnK hsz (by decide)
       exact dC_ (S:=T2_) 4 hinv (qa_ rfl) (f:=73) (args:=#[a.eval (.tmp 57),a.eval (.tmp 60)]) (by kernel_rfl) (by rw[show a.eval (.tmp 57)=_ from (gd_ hinv hdep 0 57)];rw[show a.eval (.tmp 60)=_ from (gd_ hinv hdep 3 60)];  exact KA2.out wx) (fun w' hb=>⟨hC.on hb,trivial,rfl,Ph.made hnK (hpre.on hb)⟩)
      ·have hsz:=hz_ hinv 5
       exact dv_ 5 hinv (qa_ rfl) (NN.qk_ rfl) (gd_ hinv hdep 4 61) (hI.keep hsz (by decide))
      ·have hsz:=hz_ hinv 6
       exact dv_ 6 hinv (qa_ rfl) (qac_ rfl (gd_ hinv hdep 5 56) rfl) rfl (hI.keep hsz (by decide))
      ·have hsz:=hz_ hinv 7
       exact dv_ 7 hinv (qa_ rfl) (qac_ rfl (gd_ hinv hdep 5 56) rfl) rfl (hI.keep hsz (by decide))
      ·have hsz:=hz_ hinv 8
       have hR0:=hI.1 hnl
       exact ds_ 8 hinv (qa_ rfl) (qaq_ rfl (hinv.old' 6) (gd_ hinv hdep 6 62) hR0 rfl) (hC.row _ _ (by omega) (by omega) (by omega) (by omega) (by omega) (by omega)) rfl (Ph.last hsz (hR0.row _))
     intro listed a' v51 hall hinv
     obtain ⟨hbel,h1,hR,h3,h4,h7⟩:=hinv.c
     have h6:=hinv.i.2 (hall 8 (by decide))
     have e1:a'.eval (.tmp 1) = .pointer (some ⟨b_1,0,none⟩):=hinv.old' 1
     have e2:a'.eval (.tmp 2) = .pointer (some ⟨b_R,0,none⟩):=hinv.old' 2
     have e3:a'.eval (.tmp 3) = .pointer (some ⟨b_h3,0,none⟩):=hinv.old' 3
     have e4:a'.eval (.tmp 4) = .pointer (some ⟨b_h4,0,none⟩):=hinv.old' 4
     have e6:a'.eval (.tmp 6) = .pointer (some ⟨b_h6,0,none⟩):=hinv.old' 6
     have e7:a'.eval (.tmp 7) = .pointer (some ⟨b_h7,0,none⟩):=hinv.old' 7
     have e8:a'.eval (.tmp 8) = .int .i64 z:=hinv.old' 8
     have e0:a'.eval (.tmp 0) = .agg (numC t):=hinv.old' 0
     have e5:a'.eval (.tmp 5) = .bool false:=hinv.old' 5
     have e12:a'.eval (.tmp 12) = .agg #[.int .u64 1,.int .u64 0,.int .u64 0,.int .u64 0]:=hinv.old' 12
     have e13:a'.eval (.tmp 13) = .tuple #[.agg (numC m4),.bool false]:=hinv.old' 13
     have e14:a'.eval (.tmp 14) = .agg (numC t):=hinv.old' 14
     have e15:a'.eval (.tmp 15) = .agg (numC 1):=hinv.old' 15
     have e16:a'.eval (.tmp 16) = .tuple #[.agg (numC m4),.bool false]:=hinv.old' 16
     have e17:a'.eval (.tmp 17) = .agg (numC m4):=hinv.old' 17
     have e18:a'.eval (.tmp 18) = .bool false:=hinv.old' 18
     have e19:a'.eval (.tmp 19) = .bool false:=hinv.old' 19
     have e20:a'.eval (.tmp 20)=undef:=hinv.old' 20
     have e21:a'.eval (.tmp 21) = .agg (numC t):=hinv.old' 21
     have e22:a'.eval (.tmp 22) = .agg #[.int .u64 0,.int .u64 0,.int .u64 0,.int .u64 0]:=hinv.old' 22
     have e23:a'.eval (.tmp 23) = .bool false:=hinv.old' 23
     have e24:a'.eval (.tmp 24)=undef:=hinv.old' 24
     have e25:a'.eval (.tmp 25) = .agg #[.int .u64 0,.int .u64 0,.int .u64 0,.int .u64 0]:=hinv.old' 25
     have e26:a'.eval (.tmp 26) = .agg (numC (Nm.big - 1)):=hinv.old' 26
     have e68:a'.eval (.tmp 68)=undef:=hinv.old' 68
     have e69:a'.eval (.tmp 69)=undef:=hinv.old' 69
     have e70:a'.eval (.tmp 70)=undef:=hinv.old' 70
     have e71:a'.eval (.tmp 71)=undef:=hinv.old' 71
     have e72:a'.eval (.tmp 72)=undef:=hinv.old' 72
     have e73:a'.eval (.tmp 73)=undef:=hinv.old' 73
     have e74:a'.eval (.tmp 74)=undef:=hinv.old' 74
     have e75:a'.eval (.tmp 75)=undef:=hinv.old' 75
     have e76:a'.eval (.tmp 76)=undef:=hinv.old' 76
     have e77:a'.eval (.tmp 77)=undef:=hinv.old' 77
     have e78:a'.eval (.tmp 78)=undef:=hinv.old' 78
     clear hP
     obtain ⟨u,hu⟩:∃ u:Nat->Value,∀ t,u t=a'.eval (.tmp t):=⟨_,fun _=>rfl⟩
     rw[qav_ a' 79 u hinv.tsize hinv.defers hu]
     rw[<-hu] at e1 e2 e3 e4 e6 e7 e8 e0 e5 e12 e13 e14 e15 e16 e17 e18 e19 e20 e21 e22 e23 e24 e25 e26 e68 e69 e70 e71 e72 e73 e74 e75 e76 e77 e78
     clear hu hinv hall
     simp only[List.range,List.range.loop,List.map_cons,List.map_nil]
     rw[e1,e2,e3,e4,e6,e7,e8,e0,e5,e12,e13,e14,e15,e16,e17,e18,e19,e20,e21,e22,e23,e24,e25,e26,e68,e69,e70,e71,e72,e73,e74,e75,e76,e77,e78]
     clear e1 e2 e3 e4 e6 e7 e8 e0 e5 e12 e13 e14 e15 e16 e17 e18 e19 e20 e21 e22 e23 e24 e25 e26 e68 e69 e70 e71 e72 e73 e74 e75 e76 e77 e78
     clear n1 n2 n3 n4 n5 n6
     go_upto_region 18 with fail
     refine wp_region_quiet_below (by kernel_rfl) (by kernel_rfl) ?_
     repeat (first
      | (go_big_quiet_want;(with_reducible first|refine qx_ _ rfl _ rfl _ h7.cls ?_|refine qoq_ 26 _ .eql qor_ _ _ rfl _ _ _ rfl rfl hq3 ?_);(simp only[Act.put,List.setIfInBounds_toArray,List.set_cons_zero,List.set_cons_succ]);go_big_quiet_on)
      | go_big_quiet_step ((go_at_call 74;exact Calls.regrown_of (KM.out _))))
     refine wpQuiet_nil ?_
     intro v52 hw'
     obtain ⟨rg,hw''⟩:=hw'
     have hb52:Below v51.heap.size v51 v52:=by rw[hw''];exact below_regrown v51 rg.d rg.os
     clear hw''
     replace h1:=h1.on hb52
     replace hR:=hR.on hb52
     replace h3:=h3.on hb52
     replace h4:=h4.on hb52
     replace h6:=h6.on hb52
     replace h7:=h7.on hb52
     replace hbel:=tb_ hbel hb52
     clear hb52 hq3
     cases g4
     case false=>
      go_wp2_with fail
      go_roundw
      case rel=>(repeat (apply Exists.intro (α:=Value)));exact ⟨k+1,z1,o2,r2,by omega,rfl,h_ ⟨HZ1.out,HO2.out,HR2.out⟩,⟨hbel,h1,hR,h3,h4,h6,h7⟩⟩
      case measure=>exact HME.out
     case true=>
      have NR:Hid (w.heap.size<=b_R/\b_1<b_R):=h_ ⟨ND.out.2.2.2.2.2,ND.out.1⟩
      go_wp2_with (with_reducible first|refine qb_ rfl _ rfl _ rfl _ (by assumption) rfl ?_|refine qc_ rfl _ _ rfl _ _ rfl rfl _ hR rfl ?_)
      exact bodyPost_ret (v:=.agg (numC (o2))) (qj_ Tryz.results62 _ _ _ rfl (hR.row _)) rfl ⟨_,HO2.out,rfl,below_setRow hbel NR.out.1 _⟩
  ·have hz0:z<0:=by have:=HZ.out.1;omega
   have NR:Hid (w.heap.size<=b_R/\b_1<b_R):=h_ ⟨ND.out.2.2.2.2.2,ND.out.1⟩
   have KL:=h_ fun w=>qex_ r t HZ.out.2.2 HTT.out w
   obtain ⟨o2,c3,ho2,KA20⟩:=qaav_ o 1 HZ.out.2.1 one_lt
   have KA2:=h_ KA20
   have HO2:=h_ ho2
   generalize hg3:decide (r<t)=g3 at *
   clear KA20 ho2 hg3
   go_wp2_with (first|fail|(with_reducible refine qb_ rfl _ rfl _ rfl _ (by assumption) rfl ?_))
   refine (KL.out _).mono ?_
   rintro e v71 ⟨rfl,hb71⟩
   replace h1:=h1.on hb71
   replace hR:=hR.on hb71
   replace h3:=h3.on hb71
   replace h4:=h4.on hb71
   replace h6:=h6.on hb71
   replace h7:=h7.on hb71
   replace hbel:=tb_ hbel hb71
   clear hb71
   cases g3
   case true=>
    go_wp2_with (with_reducible first|refine qb_ rfl _ rfl _ rfl _ (by assumption) rfl ?_|refine qc_ rfl _ _ rfl _ _ rfl rfl _ hR rfl ?_)
    exact bodyPost_ret (v:=.agg (numC (o))) (qj_ Tryz.results62 _ _ _ rfl (hR.row _)) rfl ⟨_,HZ.out.2.1,rfl,below_setRow hbel NR.out.1 _⟩
   case false=>
    go_wp2_with (first|fail|(with_reducible refine qb_ rfl _ rfl _ rfl _ (by assumption) rfl ?_))
    refine (KA2.out _).mono ?_
    rintro e v81 ⟨rfl,hb81⟩
    replace h1:=h1.on hb81
    replace hR:=hR.on hb81
    replace h3:=h3.on hb81
    replace h4:=h4.on hb81
    replace h6:=h6.on hb81
    replace h7:=h7.on hb81
    replace hbel:=tb_ hbel hb81
    clear hb81
    obtain ⟨n1,n2,n3,n4,n5,n6⟩:=ND.out
    have h6':=h6
    go_upto_region 22 with (with_reducible first|refine qb_ rfl _ rfl _ rfl _ (by assumption) rfl ?_|refine qc_ rfl _ _ rfl _ _ rfl rfl _ h6' rfl ?_)
    have hbel2:Below w.heap.size w (v81.setRow b_h6 (numC o2)):=below_setRow hbel (by omega) _
    replace hR:=hR.otherRow b_h6 (numC o2) (by omega)
    replace h6:=h6'.row (numC o2)
    clear h6' hbel h1 h3 h4 h7
    have hbel:=hbel2
    clear hbel2
    generalize World.setRow _ _ _=v90 at *
    go_wp2_with (with_reducible first|refine qb_ rfl _ rfl _ rfl _ (by assumption) rfl ?_|refine qc_ rfl _ _ rfl _ _ rfl rfl _ hR rfl ?_)
    exact bodyPost_ret (v:=.agg (numC (o2))) (qj_ Tryz.results62 _ _ _ rfl (hR.row _)) rfl ⟨_,HO2.out,rfl,below_setRow hbel NR.out.1 _⟩
end Go.Proofs.YtcppnfkjklhhdaaGreatDoor.NN
namespace Go.Proofs.YtcppnfkjklhhdaaGreatDoor.NN
open Go.RowKit Rg2 An
def NumW (f:FuncId) (args:Array Value):Prop:=∀ w,Calls Tryz.prog f args w fun e w'=>∃ z,z<Nm.big/\e = .returned (.agg (numC z))/\Below w.heap.size w w'
theorem rof_any (t:Nat) (ht:t<Nm.big):NumW 62 #[.agg (numC t)]:=by
 intro w
 cases h:decide (Nm.big<=t+1)
 ·cases h0:decide (t=0)
  ·exact qafl_ t ht _ (h_ fun w=>qfx_ t 1 ht one_lt _ _ rfl h.symm w) (Nat.mod_lt _ qcj_) (fun w=>qiq_ t ht _ h0 w) w
  ·exact qafk_ t _ (h_ fun w=>qfx_ t 1 ht one_lt _ _ rfl h.symm w) (fun w=>qiq_ t ht _ h0 w) w
 ·exact qafj_ t _ (h_ fun w=>qfx_ t 1 ht one_lt _ _ rfl h.symm w) w
theorem qum_ (b:Int):∃ z lo ov,z<Nm.big/\Gv_ 61 #[.int .i64 b] (.tuple #[.agg (numC z),.bool lo,.bool ov]):=by
 by_cases h:0<=b/\b<=4294967295
 ·obtain ⟨n,rfl⟩:∃ n:Nat,b=(n:Int):=⟨b.toNat,by omega⟩
  exact ⟨_,_,_,Nm.decN_lt,fun w=>qeg_ n (by omega) w⟩
 ·exact ⟨_,_,_,qcj_,fun w=>qfm_ b h w⟩
theorem qks_ (b:Int):NumW 42 #[.int .i64 b]:=by
 intro w
 obtain ⟨z,lo,ov,hz,KD0⟩:=qum_ b
 have KD:=h_ KD0
 have KO:=h_ (rof_any z hz)
 obtain ⟨g,hg⟩:∃ g,decide (z=0)=g:=⟨_,rfl⟩
 have hq:=fun w=>qiq_ z hz g hg w
 have HZ:=h_ hz
 clear KD0 hz hg
 go_enter Tryz.func42,Tryz.ntmps42
 go_upto_region 1 with fail
 generalize hw0:World.alloc _ _=v0
 have hbel:Below w.heap.size w v0:=bl_ hw0
 have hR:Has v0 w.heap.size (numC 0) 26:=by rw[<-hw0];exact Has.newz _
 clear hw0
 obtain ⟨b_R,e_R⟩:∃ x,x=w.heap.size:=⟨_,rfl⟩
 have NR:Hid (w.heap.size<=b_R):=h_ (by omega)
 rw[<-e_R] at hR |-
 clear e_R
 go_wp2_with (first|fail|(with_reducible refine qb_ rfl _ rfl _ rfl _ hR rfl ?_))
 refine (KD.out _).mono ?_
 rintro e v1 ⟨rfl,hb1⟩
 replace hR:=hR.on hb1
 replace hbel:=tb_ hbel hb1
 clear hb1
 have q2:=hR.lt
 go_upto_region 2 with (with_reducible first|refine qb_ rfl _ rfl _ rfl _ hR rfl ?_|refine qc_ rfl _ _ rfl _ _ rfl rfl _ (Has.newz _) rfl ?_)
 generalize hw2:World.setRow _ _ _=v2
 have hb2:Below v1.heap.size v1 v2:=bw_ hw2
 have h3:Has v2 v1.heap.size (numC z) 26:=by rw[<-hw2];exact (Has.newz _).row _
 replace hR:=hR.on hb2
 replace hbel:=tb_ hbel hb2
 clear hw2 hb2
 obtain ⟨b_h3,e_h3⟩:∃ x,x=v1.heap.size:=⟨_,rfl⟩
 rw[<-e_h3] at h3 q2 |-
 clear e_h3
 have N_h3:=h_ q2
 clear q2
 cases lo
 case true=>
  go_wp2_with (with_reducible first|refine qb_ rfl _ rfl _ rfl _ (by assumption) rfl ?_|refine qf_ (by with_unfolding_all rfl) _ rfl _ rfl _ (by assumption) rfl ?_|refine qz_ rfl _ _ rfl _ 0 _ rfl rfl zero4 _ hR rfl ?_)
  exact bodyPost_ret (v:=.agg (numC 0)) (qj_ Tryz.results42 _ _ _ rfl (hR.row _)) rfl ⟨_,qcj_,rfl,below_setRow hbel NR.out _⟩
 case false=>
  cases ov
  case true=>
   go_wp2_with (with_reducible first|refine qb_ rfl _ rfl _ rfl _ (by assumption) rfl ?_|refine qf_ (by with_unfolding_all rfl) _ rfl _ rfl _ (by assumption) rfl ?_|refine qz_ rfl _ _ rfl _ 0 _ rfl rfl zero4 _ hR rfl ?_)
   exact bodyPost_ret (v:=.agg (numC 0)) (qj_ Tryz.results42 _ _ _ rfl (hR.row _)) rfl ⟨_,qcj_,rfl,below_setRow hbel NR.out _⟩
  case false=>
   cases g
   case true=>
    go_wp2_with (with_reducible first|refine qb_ rfl _ rfl _ rfl _ (by assumption) rfl ?_|refine qf_ (by with_unfolding_all rfl) _ rfl _ rfl _ (by assumption) rfl ?_|refine qz_ rfl _ _ rfl _ 0 _ rfl rfl zero4 _ hR rfl ?_)
    exact bodyPost_ret (v:=.agg (numC 0)) (qj_ Tryz.results42 _ _ _ rfl (hR.row _)) rfl ⟨_,qcj_,rfl,below_setRow hbel NR.out _⟩
   case false=>
    go_wp2_with (with_reducible first|refine qb_ rfl _ rfl _ rfl _ (by assumption) rfl ?_|refine qf_ (by with_unfolding_all rfl) _ rfl _ rfl _ (by assumption) rfl ?_)
    refine (KO.out _).mono ?_
    rintro e v9 ⟨y,hy,rfl,hb9⟩
    have HY:=h_ hy
    clear hy
    replace hR:=hR.on hb9
    replace h3:=h3.on hb9
    replace hbel:=tb_ hbel hb9
    clear hb9
    go_wp2_with (with_reducible first|refine qb_ rfl _ rfl _ rfl _ (by assumption) rfl ?_|refine qc_ rfl _ _ rfl _ _ rfl rfl _ hR rfl ?_)
    exact bodyPost_ret (v:=.agg (numC y)) (qj_ Tryz.results42 _ _ _ rfl (hR.row _)) rfl ⟨_,HY.out,rfl,below_setRow hbel NR.out _⟩
end Go.Proofs.YtcppnfkjklhhdaaGreatDoor.NN
namespace Go.Proofs.YtcppnfkjklhhdaaGreatDoor.An
open Go.RowKit Mem Sc NN.Rg2
theorem PhA.mine {k s:Nat} {Pre:World->Prop} {Post:Value->World->Prop} {l:Array Bool} {a:Act} {w':World} (u:Value) (hi:k<l.size) (hs:s<a.tmps.size) (hp:Post u w'):PhA k s Pre Post (l.setIfInBounds k true) (a.put (some s) u) w' :=
 ⟨fun h=>(by rw[qab_ _ _ _ hi,if_pos rfl] at h;cases h),fun _=>by rw[qbs_ a s u hs];exact hp⟩
theorem qun_:∃ i z,Tryz.prog.info? 26=some i/\i.zero=some z/\i.size=4/\i.bytes=32/\z.cells.size=4:=qkg_ (by kernel_rfl) (by kernel_rfl) (by kernel_rfl)
theorem qkt_ (cs:Array Value) (h:cs.size=4) (w:World):(Instr.buildSlice 43 1 #[(0,.agg cs)]).run Tryz.prog w = .ok (.slice (some ⟨w.heap.size,0,none⟩) 1 1) (w.alloc (.cells cs 26)):=by
 obtain ⟨i,z,hi,hz,h1,h2,h3⟩:=qun_
 refine run_buildSlice w 43 26 1 _ cs i z Tryz.underlying43 hi hz (by rw[h1];decide) (by rw[h1];decide) ?_
 rw[h1]
 exact qit_ 4 _ cs (by simp) h
section
variable {ρ:Operand->Value} {o:Oper} {w:World}
theorem ex_max {x y:Operand} {a b m:Int} (ho:o.op = .call { callee:=.builtin .max,args:=#[x,y],argTypes:=#[3,3] }) (hx:ρ x = .int .i64 a) (hy:ρ y = .int .i64 b) (hm:m=max a b):(execOp ρ o).run Tryz.prog w = .ok (.value (.int .i64 m)) w:=by
 have hr:=NN.max_is (P:=Tryz.prog) a b m hm #[3,3] o.type w
 unfold execOp
 simp only[ho,resolve,invoke,builtin,Sem.run_bind,Sem.run_pure,Result.andThen_ok,List.map_toArray,List.map_cons,List.map_nil,hx,hy,hr]
theorem ex_box {T:TypeId} {x:Operand} {cs:Array Value} (ho:o.op = .box T x) (hx:ρ x = .agg cs):(execOp ρ o).run Tryz.prog w = .ok (.value (.pointer (some ⟨w.heap.size,0,none⟩))) (w.alloc (.cells cs T)):=by
 unfold execOp
 simp only[ho,hx]
 rfl
theorem qql_ {x0 x1 x2 x3 x4 x5:Operand} {p:NN.Pr} (ho:o.op = .build 45 #[(0,x0),(1,x1),(2,x2),(3,x3),(4,x4),(5,x5)]) (hp:p.ok) (h0:ρ x0 = .agg (NN.prA p)) {a1 a2 a3 a4:Option Addr} {n1 n2 n3 n4 c1 c2 c3 c4 room:Nat} (h1:ρ x1 = .slice a1 n1 c1) (h2:ρ x2 = .slice a2 n2 c2) (h3:ρ x3 = .slice a3 n3 c3) (h4:ρ x4 = .slice a4 n4 c4) (h5:ρ x5 = .int .i64 (room:Int)):(execOp ρ o).run Tryz.prog w = .ok (.value (.agg (rfA p (.slice a1 n1 c1) (.slice a2 n2 c2) (.slice a3 n3 c3) (.slice a4 n4 c4) room))) w:=by
 unfold execOp
 simp only[ho,Sem.run_bind]
 rw[show (#[(0,x0),(1,x1),(2,x2),(3,x3),(4,x4),(5,x5)]:Array (Nat × Operand)).map (fun (i,x)=>(i,ρ x))=#[(0,.agg (NN.prA p)),(1,.slice a1 n1 c1),(2,.slice a2 n2 c2),(3,.slice a3 n3 c3),(4,.slice a4 n4 c4),(5,Value.int .i64 (room:Int))] by simp[h0,h1,h2,h3,h4,h5],run_build w 45 _ _ (qafi_ p hp a1 a2 a3 a4 n1 n2 n3 n4 c1 c2 c3 c4 room)]
 rfl
end
def Row1 (B:Nat) (cs:Array Value) (T:TypeId) (u:Value) (w:World):Prop:=∃ g,u = .slice (some ⟨g,0,none⟩) 1 1/\B<=g/\Has w g cs T
theorem Row1.on {B:Nat} {cs:Array Value} {T:TypeId} {u:Value} {w w':World} (h:Row1 B cs T u w) (hb:Below w.heap.size w w'):Row1 B cs T u w':=by
 obtain ⟨g,h1,h2,h3⟩:=h
 exact ⟨g,h1,h2,qd_ hb h3 h3.lt⟩
def NumV (u:Value):Prop:=∃ z,z<NN.Nm.big/\u = .agg (NN.numC z)
def RowN (B:Nat) (u:Value) (w:World):Prop:=∃ z,z<NN.Nm.big/\Row1 B (NN.numC z) 26 u w
theorem RowN.on {B:Nat} {u:Value} {w w':World} (h:RowN B u w) (hb:Below w.heap.size w w'):RowN B u w':=by
 obtain ⟨z,h1,h2⟩:=h
 exact ⟨z,h1,h2.on hb⟩
def RfV (B:Nat) (p:NN.Pr) (h:Hd) (id:List UInt8) (R:Nat) (cs:Array Value) (w:World):Prop:=∃ vH vI vA vW,cs=rfA p vH vI vA vW R/\Row1 B (hdA h) 30 vH w/\Row1 B (bytesV id) 28 vI w/\Row1 B #[.int .i64 (-1)] 3 vA w/\RowN B vW w
theorem RfV.on {B:Nat} {p:NN.Pr} {h:Hd} {id:List UInt8} {R:Nat} {cs:Array Value} {w w':World} (hv:RfV B p h id R cs w) (hb:Below w.heap.size w w'):RfV B p h id R cs w':=by
 obtain ⟨vH,vI,vA,vW,h1,h2,h3,h4,h5⟩:=hv
 exact ⟨vH,vI,vA,vW,h1,h2.on hb,h3.on hb,h4.on hb,h5.on hb⟩
def RfP (B:Nat) (p:NN.Pr) (h:Hd) (id:List UInt8) (R:Nat) (u:Value) (w:World):Prop:=∃ g cs,u = .pointer (some ⟨g,0,none⟩)/\B<=g/\Has w g cs 45/\RfV B p h id R cs w
theorem RfP.on {B:Nat} {p:NN.Pr} {h:Hd} {id:List UInt8} {R:Nat} {u:Value} {w w':World} (hv:RfP B p h id R u w) (hb:Below w.heap.size w w'):RfP B p h id R u w':=by
 obtain ⟨g,cs,h1,h2,h3,h4⟩:=hv
 exact ⟨g,cs,h1,h2,qd_ hb h3 h3.lt,h4.on hb⟩
def RnR (B bP:Nat) (p:NN.Pr) (h:Hd) (id:List UInt8) (room m1:Int) (R:Nat):Nat->Value->World->Prop
 | 0,u,_=>u = .agg (NN.prA p)
 | 1,u,_=>u = .pointer (some ⟨bP,15,none⟩)
 | 2,u,_=>u = .agg (hdA h)
 | 3,u,w=>Row1 B (hdA h) 30 u w
 | 4,u,_=>u = .pointer (some ⟨bP,15,none⟩)
 | 5,u,_=>u = .agg (hdA h)
 | 6,u,_=>u = .agg (bytesV id)
 | 7,u,w=>Row1 B (bytesV id) 28 u w
 | 8,u,w=>Row1 B #[.int .i64 (-1)] 3 u w
 | 9,u,_=>u = .pointer (some ⟨bP,15,none⟩)
 | 10,u,_=>u = .pointer (some ⟨bP,81,none⟩)
 | 11,u,_=>u = .int .i64 h.bits
 | 12,u,_=>NumV u
 | 13,u,w=>RowN B u w
 | 14,u,_=>u = .int .i64 room
 | 15,u,_=>u = .int .i64 m1
 | 16,u,_=>u = .int .i64 (R:Int)
 | 17,u,w=>∃ cs,u = .agg cs/\RfV B p h id R cs w
 | 18,u,w=>RfP B p h id R u w
 | 19,u,w=>RfP B p h id R u w
 | _,_,_=>B=B
theorem qys_ {B bP:Nat} {p:NN.Pr} {h:Hd} {id:List UInt8} {room m1:Int} {R:Nat}:∀ (i:Nat) (u:Value) (w w':World),Below w.heap.size w w'->RnR B bP p h id room m1 R i u w->RnR B bP p h id room m1 R i u w'
 | 0,_,_,_,_,h|1,_,_,_,_,h|2,_,_,_,_,h|4,_,_,_,_,h|5,_,_,_,_,h|6,_,_,_,_,h|9,_,_,_,_,h|10,_,_,_,_,h|11,_,_,_,_,h|12,_,_,_,_,h|14,_,_,_,_,h|15,_,_,_,_,h|16,_,_,_,_,h=>h
 | 3,_,_,_,hb,h=>Row1.on h hb
 | 7,_,_,_,hb,h=>Row1.on h hb
 | 8,_,_,_,hb,h=>Row1.on h hb
 | 13,_,_,_,hb,h=>RowN.on h hb
 | 17,_,_,_,hb,⟨cs,h1,h2⟩=>⟨cs,h1,h2.on hb⟩
 | 18,_,_,_,hb,h=>RfP.on h hb
 | 19,_,_,_,hb,h=>RfP.on h hb
 | _+20,_,_,_,_,_=>rfl
theorem rfnew_w (p:NN.Pr) (hp:p.ok) (t:Tl) (tt:p.tl=t.C) (ht:t.ok) (h:Hd) (hg:t.g=h) (ho:h.ok) (id:List UInt8) (i32:id.length=32) (room:Int) (w:World)
  (KI:HK_ w 13 #[.agg (hdA h)] (.agg (bytesV id))) :
  Calls Tryz.prog 26 #[.agg (NN.prA p),.int .i64 room] w fun e w'=>∃ u,e = .returned u/\RfP w.heap.size p h id (clampR room) u w'/\Below w.heap.size w w':=by
 have KO:=h_ (NN.qks_ h.bits)
 have z2:=qh_ ho
 have zA:(hdA h).size=68:=by rw[hdA,List.size_toArray,z2]
 have zI:(bytesV id).size=32:=by simp[bytesV,i32]
 obtain ⟨m1,hm1⟩:∃ m1,m1=max room 1:=⟨_,rfl⟩
 obtain ⟨R,hR⟩:∃ R,R=clampR room:=⟨_,rfl⟩
 have hR2:(R:Int)=min m1 512:=by rw[hR,hm1,qop_]
 have HM:=h_ (And.intro hm1 hR2)
 rw[<-hR]
 clear hR hm1 hR2
 go_enter Tryz.func26,Tryz.ntmps26
 go_upto_region 1 with fail
 generalize hw0:World.alloc _ _=v0
 have hB:Below w.heap.size w v0:=bl_ hw0
 have hP:NN.PrAt v0 w.heap.size p:=by rw[<-hw0];exact NN.Has.new _ _
 clear hw0
 obtain ⟨bP,hbP⟩:∃ x,x=w.heap.size:=⟨_,rfl⟩
 have HBP:=h_ hbP
 rw[<-hbP] at hP |-
 clear hbP
 refine qi_ (by kernel_rfl) (fun w'=>Below w.heap.size w w'/\NN.PrAt w' bP p) (fun i v' w'=>RnR w.heap.size bP p h id room m1 R i v' w') (fun l a w'=>PhA 19 4 (fun _=>True) (fun u w'=>RfP w.heap.size p h id R u w') l a w') (fun w w'=>Below w.heap.size w w') (fun _ _=>Below.refl _ _) (fun i v w w' _ hs h=>qys_ i v w w' hs h) (by kernel_rfl) ⟨hB.trans ((Below.refl _ _).drew.mono hB.size),Has.drew hP⟩ ?_ ?_ ?_
 ·exact fun l hl=>PhA.zero hl trivial
 ·intro i o listed a wx ho' hnl hdep hinv
  have hC:=hinv.c
  have hI:=hinv.i
  have hi:i<20:=(Array.getElem?_eq_some_iff.1 ho').1
  have rP:wx.rangeAt bP 15 (hdC h):=by rw[<-hg];exact pr_gen hC.2 tt ht
  have rB:=qkq_ ho rP
  have rA:wx.rangeAt bP 0 (NN.prC p):=qbh_ (A:=[]) (C:=[]) (t:=32) (by rw[List.append_nil];exact hC.2) rfl
  obtain rfl|rfl|rfl|rfl|rfl|rfl|rfl|rfl|rfl|rfl|rfl|rfl|rfl|rfl|rfl|rfl|rfl|rfl|rfl|rfl:i=0\/i=1\/i=2\/i=3\/i=4\/i=5\/i=6\/i=7\/i=8\/i=9\/i=10\/i=11\/i=12\/i=13\/i=14\/i=15\/i=16\/i=17\/i=18\/i=19:=by omega
  all_goals obtain rfl:=Option.some.inj ho'
  ·have hsz:=hz_ hinv 0
   exact dV_ (S:=fun w w'=>Below w.heap.size w w') (fun _ _=>Below.refl _ _) 0 hinv (qa_ rfl) (qfe_ rfl (hinv.old' 2) rA (qt_ hp)) rfl (hI.keep hsz (by decide) _ _ (by decide))
  ·have hsz:=hz_ hinv 1
   exact dV_ (S:=fun w w'=>Below w.heap.size w w') (fun _ _=>Below.refl _ _) 1 hinv (qa_ rfl) (qaj_ rfl (hinv.old' 2) (pfield9 wx bP)) rfl (hI.keep hsz (by decide) _ _ (by decide))
  ·have hsz:=hz_ hinv 2
   exact dV_ (S:=fun w w'=>Below w.heap.size w w') (fun _ _=>Below.refl _ _) 2 hinv (qa_ rfl) (qcc_ rfl (gd_ hinv hdep 1 6) rP z2) rfl (hI.keep hsz (by decide) _ _ (by decide))
  ·have hsz:=hz_ hinv 3
   have hnK:=ah_ hinv hnl 19
   have hb:Below wx.heap.size wx (wx.alloc _):=(Below.refl _ _).alloc (Nat.le_refl _) (.cells (hdA h) 30)
   exact dM_ (S:=fun w w'=>Below w.heap.size w w') 3 hinv (qa_ rfl) (NN.Rg2.qbx_ rfl (gd_ hinv hdep 2 7) (qiu_ _ zA wx)) ⟨tb_ hC.1 hb,NN.PrAt.on hC.2 hb⟩ hb (⟨wx.heap.size,rfl,hC.1.size,Has.new _ _⟩) (PhA.made hnK trivial)
  ·have hsz:=hz_ hinv 4
   exact dV_ (S:=fun w w'=>Below w.heap.size w w') (fun _ _=>Below.refl _ _) 4 hinv (qa_ rfl) (qaj_ rfl (hinv.old' 2) (pfield9 wx bP)) rfl (hI.keep hsz (by decide) _ _ (by decide))
  ·have hsz:=hz_ hinv 5
   exact dV_ (S:=fun w w'=>Below w.heap.size w w') (fun _ _=>Below.refl _ _) 5 hinv (qa_ rfl) (qcc_ rfl (gd_ hinv hdep 4 9) rP z2) rfl (hI.keep hsz (by decide) _ _ (by decide))
  ·have hsz:=hz_ hinv 6
   have hnK:=ah_ hinv hnl 19
   have hpre:=hI.pre hnK hsz (by decide)
   exact dC_ (S:=fun w w'=>Below w.heap.size w w') 6 hinv (qa_ rfl) (f:=13) (args:=#[a.eval (.tmp 10)]) (by kernel_rfl) (by rw[show a.eval (.tmp 10)=_ from (gd_ hinv hdep 5 10)];  exact KI.out wx hC.1) (fun w' hb=>⟨⟨tb_ hC.1 hb,NN.PrAt.on hC.2 hb⟩,hb,rfl,PhA.made hnK (trivial)⟩)
  ·have hsz:=hz_ hinv 7
   have hnK:=ah_ hinv hnl 19
   have hb:Below wx.heap.size wx (wx.alloc _):=(Below.refl _ _).alloc (Nat.le_refl _) (.cells (bytesV id) 28)
   exact dM_ (S:=fun w w'=>Below w.heap.size w w') 7 hinv (qa_ rfl) (NN.Rg2.qbx_ rfl (gd_ hinv hdep 6 11) (qel_ _ zI wx)) ⟨tb_ hC.1 hb,NN.PrAt.on hC.2 hb⟩ hb (⟨wx.heap.size,rfl,hC.1.size,Has.new _ _⟩) (PhA.made hnK trivial)
  ·have hsz:=hz_ hinv 8
   have hnK:=ah_ hinv hnl 19
   have hb:Below wx.heap.size wx (wx.alloc _):=(Below.refl _ _).alloc (Nat.le_refl _) (.cells #[.int .i64 (-1)] 3)
   exact dM_ (S:=fun w w'=>Below w.heap.size w w') 8 hinv (qa_ rfl) (NN.Rg2.qbx_ rfl rfl (qdw_ wx (-1))) ⟨tb_ hC.1 hb,NN.PrAt.on hC.2 hb⟩ hb (⟨wx.heap.size,rfl,hC.1.size,Has.new _ _⟩) (PhA.made hnK trivial)
  ·have hsz:=hz_ hinv 9
   exact dV_ (S:=fun w w'=>Below w.heap.size w w') (fun _ _=>Below.refl _ _) 9 hinv (qa_ rfl) (qaj_ rfl (hinv.old' 2) (pfield9 wx bP)) rfl (hI.keep hsz (by decide) _ _ (by decide))
  ·have hsz:=hz_ hinv 10
   exact dV_ (S:=fun w w'=>Below w.heap.size w w') (fun _ _=>Below.refl _ _) 10 hinv (qa_ rfl) (qgd_ rfl (gd_ hinv hdep 9 14) (hfield4o wx bP)) rfl (hI.keep hsz (by decide) _ _ (by decide))
  ·have hsz:=hz_ hinv 11
   exact dV_ (S:=fun w w'=>Below w.heap.size w w') (fun _ _=>Below.refl _ _) 11 hinv (qa_ rfl) (NN.qbf_ rfl (gd_ hinv hdep 10 15) rB) rfl (hI.keep hsz (by decide) _ _ (by decide))
  ·have hsz:=hz_ hinv 12
   have hnK:=ah_ hinv hnl 19
   have e16:=(gd_ hinv hdep 11 16)
   refine dA_ (S:=fun w w'=>Below w.heap.size w w') 12 hinv (qa_ rfl) (f:=42) (args:=#[a.eval (.tmp 16)]) (by kernel_rfl) ?_
   rw[e16]
   refine (KO.out wx).mono ?_
   rintro e w' ⟨z,hz,rfl,hb⟩
   exact ⟨_,rfl,⟨tb_ hC.1 hb,NN.PrAt.on hC.2 hb⟩,hb,⟨z,hz,rfl⟩,PhA.made hnK trivial⟩
  ·have hsz:=hz_ hinv 13
   have hnK:=ah_ hinv hnl 19
   obtain ⟨z,hz,e17⟩:=(gd_ hinv hdep 12 17)
   have hb:Below wx.heap.size wx (wx.alloc _):=(Below.refl _ _).alloc (Nat.le_refl _) (.cells (NN.numC z) 26)
   exact dM_ (S:=fun w w'=>Below w.heap.size w w') 13 hinv (qa_ rfl) (NN.Rg2.qbx_ rfl e17 (qkt_ _ (NN.qbl_ z) wx)) ⟨tb_ hC.1 hb,NN.PrAt.on hC.2 hb⟩ hb (⟨z,hz,wx.heap.size,rfl,hC.1.size,Has.new _ _⟩) (PhA.made hnK trivial)
  ·have hsz:=hz_ hinv 14
   exact dV_ (S:=fun w w'=>Below w.heap.size w w') (fun _ _=>Below.refl _ _) 14 hinv (qa_ rfl) (NN.qk_ rfl) (hinv.old' 1) (hI.keep hsz (by decide) _ _ (by decide))
  ·have hsz:=hz_ hinv 15
   exact dV_ (S:=fun w w'=>Below w.heap.size w w') (fun _ _=>Below.refl _ _) 15 hinv (qa_ rfl) (ex_max rfl (gd_ hinv hdep 14 19) rfl HM.out.1) rfl (hI.keep hsz (by decide) _ _ (by decide))
  ·have hsz:=hz_ hinv 16
   exact dV_ (S:=fun w w'=>Below w.heap.size w w') (fun _ _=>Below.refl _ _) 16 hinv (qa_ rfl) (ex_min rfl (gd_ hinv hdep 15 20) rfl HM.out.2) rfl (hI.keep hsz (by decide) _ _ (by decide))
  ·have hsz:=hz_ hinv 17
   obtain ⟨g1,e8,k8,m8⟩:=(gd_ hinv hdep 3 8)
   obtain ⟨g2,e12,k12,m12⟩:=(gd_ hinv hdep 7 12)
   obtain ⟨g3,e13,k13,m13⟩:=(gd_ hinv hdep 8 13)
   obtain ⟨z,hz,g4,e18,k18,m18⟩:=(gd_ hinv hdep 13 18)
   exact dV_ (S:=fun w w'=>Below w.heap.size w w') (fun _ _=>Below.refl _ _) 17 hinv (qa_ rfl) (qql_ rfl hp (gd_ hinv hdep 0 5) e8 e12 e13 e18 (gd_ hinv hdep 16 21)) ⟨_,rfl,_,_,_,_,rfl,⟨g1,rfl,k8,m8⟩,⟨g2,rfl,k12,m12⟩,⟨g3,rfl,k13,m13⟩,z,hz,g4,rfl,k18,m18⟩ (hI.keep hsz (by decide) _ _ (by decide))
  ·have hsz:=hz_ hinv 18
   have hnK:=ah_ hinv hnl 19
   obtain ⟨cs,e22,hv⟩:=(gd_ hinv hdep 17 22)
   have hb:Below wx.heap.size wx (wx.alloc _):=(Below.refl _ _).alloc (Nat.le_refl _) (.cells cs 45)
   exact dM_ (S:=fun w w'=>Below w.heap.size w w') 18 hinv (qa_ rfl) (ex_box rfl e22) ⟨tb_ hC.1 hb,NN.PrAt.on hC.2 hb⟩ hb (⟨wx.heap.size,cs,rfl,hC.1.size,Has.new _ _,hv.on hb⟩) (PhA.made hnK trivial)
  ·have hsz:=hz_ hinv 19
   exact dV_ (S:=fun w w'=>Below w.heap.size w w') (fun _ _=>Below.refl _ _) 19 hinv (qa_ rfl) (NN.qah_ rfl) (gd_ hinv hdep 18 23) (PhA.mine _ hsz (by rw[hinv.tsize];exact (show 4<24 by decide)) (gd_ hinv hdep 18 23))
 intro listed a' v1 hall hinv
 have hC:=hinv.c
 obtain ⟨g,cs,e4,hg4,hh4,hv4⟩:=hinv.i.2 (hall 19 (by decide))
 obtain ⟨u,hu⟩:∃ u:Nat->Value,∀ t,u t=a'.eval (.tmp t):=⟨_,fun _=>rfl⟩
 rw[qav_ a' 24 u hinv.tsize hinv.defers hu]
 rw[<-hu] at e4
 clear hu hinv hall
 simp only[List.range,List.range.loop,List.map_cons,List.map_nil]
 rw[e4]
 clear e4
 go_wp2_with fail
 go_ret
 exact ⟨_,rfl,⟨g,cs,rfl,hg4,hh4,hv4⟩,hC.1⟩
end Go.Proofs.YtcppnfkjklhhdaaGreatDoor.An
namespace Go.Proofs.YtcppnfkjklhhdaaGreatDoor.An
open Go.RowKit Mem Sc
open Ar (Ent Ru entZ Ok)
section
variable {w:World} {k:Nat} {e:En}
theorem EnAt.head (h:EnAt w k e):w.rangeAt k 0 (hdC e.h):=by
 have:=qbh_ (A:=[]) (cs:=hdC e.h) (C:=Lib.byteCells e.id ++ (.int .i64 e.up :: .int .i64 e.ht :: (NN.numC e.wk).toList)) (o:=0) (w:=w) (b:=k) (t:=76) h rfl
 exact this
theorem EnAt.tail (h:EnAt w k e) (ho:e.ok):w.rangeAt k 100 (.int .i64 e.up :: .int .i64 e.ht :: (NN.numC e.wk).toList):=by
 have:=qbh_ (A:=hdC e.h ++ Lib.byteCells e.id) (cs:=.int .i64 e.up :: .int .i64 e.ht :: (NN.numC e.wk).toList) (C:=[]) (o:=100) (w:=w) (b:=k) (t:=76) (by rw[List.append_nil,List.append_assoc];exact h) (by simp[qh_ ho.1,qe_ ho.2])
 exact this
theorem EnAt.up (h:EnAt w k e) (ho:e.ok) {z:Int} (hz:Hid (e.up=z)):w.cell? ⟨k,100,none⟩=some (.int .i64 z):=by rw[<-hz.out];exact h.tail ho 0 _ rfl
theorem EnAt.ht (h:EnAt w k e) (ho:e.ok) {z:Int} (hz:Hid (e.ht=z)):w.cell? ⟨k,101,none⟩=some (.int .i64 z):=by rw[<-hz.out];exact h.tail ho 1 _ rfl
theorem qdz_ (w:World) (e:En):EnAt ((w.alloc (.cells Tryz.zeroCells76 76)).setRow w.heap.size (enA e)) w.heap.size e:=Has.row (qbq_ w) _
end
theorem qcb_ (w:World) (T:TypeId) (z cs:Array Value):Below w.heap.size w ((w.alloc (.cells z T)).setRow w.heap.size cs):=below_setRow ((Below.refl _ _).alloc (Nat.le_refl _) _) (Nat.le_refl _) _
theorem add_len (r:Ru) (M:List Ent) (h:Hd) (now:Int):(Ar.add r M h now).2.length<=M.length+1:=by
 unfold Ar.add
 repeat' split
 all_goals simp
end Go.Proofs.YtcppnfkjklhhdaaGreatDoor.An
namespace Go.Proofs.YtcppnfkjklhhdaaGreatDoor.An
open Go.RowKit Mem Sc
open Ar (Ent Ru entZ Ok)
theorem qgz_:∃ i y,Tryz.prog.info? 3=some i/\i.zero=some y/\i.size=1/\i.bytes=8/\y.cells.size=1:=qkg_ (by kernel_rfl) (by kernel_rfl) (by kernel_rfl)
theorem quo_ {w:World} {ops:Array Oper} {rest:List Oper} {o:Oper} {a:Act} {Q:Exit->Act->World->Prop} (hgd:o.guard=none) (s x:Operand) (ho:o.op = .call { callee:=.builtin .append,args:=#[s,x],argTypes:=#[42,42] }) (v:Value) (n:Nat) (l:List Int) (hs:a.eval s=v) (hown:w.ownsRow 0 3 1 v n (l.map (Value.int .i64)))
  (g:Nat) (z:Int) (hx:a.eval x = .slice (some ⟨g,0,none⟩) 1 1) (hz:w.cell? ⟨g,0,none⟩=some (.int .i64 z)) (hn:n<=900)
  (h:∀ v' w',w'.ownsRow 0 3 1 v' (n+1) ((l ++ [z]).map (Value.int .i64))->w.grownBy w' v.ownBlock->(v'.ownBlock=v.ownBlock\/v'.ownBlock=some w.heap.size)->wpList Tryz.prog ops Q rest (a.put o.dst v') w'):wpList Tryz.prog ops Q (o :: rest) a w:=by
 obtain ⟨i,y,hi,hzz,h1,h2,h3⟩:=qgz_
 refine wpList_append_own_at (P:=Tryz.prog) w hgd s x 42 ho 0 3 i y 1 8 Tryz.underlying42 hi hzz h1 h2 h3 (by decide) v n _ hs hown ⟨g,0,none⟩ 1 1 [.int .i64 z] hx rfl (fun j u hj=>?_) (fun u hu=>?_) (by unfold maxLen;omega) (by omega) (Nat.zero_le _) (fun v' w' g1 g2 _ g4=>h v' w' (by rw[List.map_append];exact g1) g2 g4)
 ·match j,hj with
  | 0,hj=>rw[Addr.add_lit,Nat.zero_add,hz];exact hj
  | j+1,hj=>simp at hj
 ·obtain rfl:u = .int .i64 z:=by simpa using hu
  rfl
theorem qaaw_ {w:World} {base:Nat} {T:TypeId} {size:Nat} {a:Option Addr} {n c m:Nat} {xs:List Value} (h:w.ownsRow base T size (.slice a n c) m xs) (hm:0<m):m<=c:=by
 rcases h.2 with ⟨_,h0⟩|⟨g,c2,cur,e,_,_,h3,_⟩
 ·omega
 ·cases e
  exact h3
theorem qjb_ {w:World} {ops:Array Oper} {rest:List Oper} {o:Oper} {a:Act} {Q:Exit->Act->World->Prop} (hgd:o.guard=none) (s x:Operand) (ho:o.op = .call { callee:=.builtin .append,args:=#[s,x],argTypes:=#[41,41] }) (hty:o.type=41) (base g:Nat) (y:Hd) (hy:y.ok) (hs:a.eval s = .slice (some ⟨g,0,none⟩) 1 1) (hg:Has w g (hdA y) 30) (hbg:base<=g) (hbase:base<=w.heap.size)
  (ad:Option Addr) (m c:Nat) (z:List Hd) (hx:a.eval x = .slice ad m c) (hz:z.length=m) (hnil:ad=none->m=0/\c=0) (hL:HeadersAt w ad z) (hn:m<=900)
  (h:∀ ad' c' w',HeadersAt w' ad' (y :: z)->ad' ≠ none->w.grownBy w' (some g)->m+1<=c'->wpList Tryz.prog ops Q rest (a.put o.dst (.slice ad' (m+1) c')) w'):wpList Tryz.prog ops Q (o :: rest) a w:=by
 obtain ⟨i,y0,hi,hzz,h1,h2,h3⟩:=qoe_
 have hown:w.ownsRow base 30 68 (.slice (some ⟨g,0,none⟩) 1 1) 1 (hdC y):=⟨by rw[qh_ hy],.inr ⟨g,1,hdA y,rfl,hbg,hg,Nat.le_refl _,by decide,qs_ hy,by show ((hdC y).toArray.toList).take 68=_;rw[<-qh_ hy];simp⟩⟩
 by_cases h0:0<m
 ·obtain ⟨ab,ao,rfl,hlt,hc⟩:=hL (by omega)
  have hok:∀ q ∈ z,q.ok:=fun q hq=>by obtain ⟨i,hi,e⟩:=List.mem_iff_getElem.1 hq;rw[<-e];exact (hc i hi).1
  refine wpList_append_own_at (P:=Tryz.prog) w hgd s x 41 ho base 30 i y0 68 96 Tryz.underlying41 hi hzz h1 h2 h3 (by decide) _ 1 _ hs hown ⟨ab,ao,none⟩ m c (headersC z) hx ?_ (fun j u hj=>?_) (fun u hu=>?_) (by unfold maxLen;omega) (by omega) hbase (fun v' w' g1 g2 _ _=>?_)
  ·rw[<-hz];exact qdv_ hdC 68 z (fun q hq=>qh_ (hok q hq))
  ·rw[Addr.add_lit]
   exact qhd_ hdC 68 (by decide) z (fun q hq=>qh_ (hok q hq)) (fun i q hi=>by
    obtain ⟨e1,e2⟩:=List.getElem?_eq_some_iff.1 hi
    rw[<-e2];exact (hc i e1).2) j u hj
  ·exact qdj_ hdC z (fun q _=>qgt_ q) u hu
  ·have hok2:∀ q ∈ y :: z,q.ok:=fun q hq=>by
    rcases List.mem_cons.1 hq with rfl|hq
    ·exact hy
    ·exact hok q hq
   obtain ⟨a',c',rfl,h4⟩:=qec_ (hs:=y :: z) (n:=1+m) g1 (by simp;omega) hok2
   rw[Nat.add_comm]
   exact h a' c' w' h4 (fun e=>by obtain ⟨_,_,e2,_⟩:=h4 (by simp);rw[e] at e2;cases e2) g2 (by have:=qaaw_ g1 (by omega);omega)
 ·obtain rfl:z=[]:=List.eq_nil_of_length_eq_zero (by omega)
  have hm0:m=0:=by omega
  have hHA:HeadersAt w (some ⟨g,0,none⟩) [y]:=fun _=>⟨g,0,rfl,Has.lt hg,fun i hi=>by
   obtain rfl:i=0:=by simpa using hi
   refine ⟨hy,?_⟩
   have:=qbh_ (A:=[]) (cs:=hdC y) (C:=[]) (o:=0) (w:=w) (b:=g) (t:=30) (by rw[List.append_nil];exact hg) rfl
   exact this⟩
  cases ad with
  | none=>
   obtain ⟨_,rfl⟩:=hnil rfl
   subst hm0
   have hrun:=run_append_owned_none (P:=Tryz.prog) (w:=w) base 41 41 30 i 68 Tryz.underlying41 hi _ 1 _ hown
   refine wpList_plain hgd fun _ hK=>?_
   unfold Oper.wp execOp
   simp only[ho,hty,resolve,invoke,builtin,Sem.run_bind,Sem.run_pure,Result.andThen_ok,List.map_toArray,List.map_cons,List.map_nil,hs,hx,hrun]
   exact hK _ _ (h _ _ w hHA (fun e=>by cases e) ⟨rfl,rfl,rfl,Nat.le_refl _,fun _ _ _=>rfl⟩ (Nat.le_refl _))
  | some ad=>
   subst hm0
   refine wpList_append_own_at (P:=Tryz.prog) w hgd s x 41 ho base 30 i y0 68 96 Tryz.underlying41 hi hzz h1 h2 h3 (by decide) _ 1 _ hs hown ad 0 c [] hx rfl (fun j u hj=>by simp at hj) (fun u hu=>by cases hu) (by unfold maxLen;omega) (by omega) hbase (fun v' w' g1 g2 _ _=>?_)
   obtain ⟨a',c',rfl,h4⟩:=qec_ (hs:=[y]) (n:=1+0) (by rw[List.append_nil] at g1;show w'.ownsRow _ _ _ _ _ (hdC y ++ []);rw[List.append_nil];exact g1) rfl (fun q hq=>(List.mem_singleton.1 hq).symm ▸ hy)
   exact h a' c' w' h4 (fun e=>by obtain ⟨_,_,e2,_⟩:=h4 (by simp);rw[e] at e2;cases e2) g2 (by have:=qaaw_ g1 (by omega);omega)
end Go.Proofs.YtcppnfkjklhhdaaGreatDoor.An
namespace Go.Proofs.YtcppnfkjklhhdaaGreatDoor.An
open Go.RowKit Mem Sc NN.Rg2
open Ar (Ent Ru entZ)
def RfS (w:World) (B:Nat) (F:Nat->Prop) (b:Nat) (r:Ru) (M:List Ent):Prop :=
 B<=w.heap.size/\(∀i,F i->B<=i/\i<w.heap.size)/\F b/\∃ p t vH vI vA vW ws,Rfa w (fun i=>i<B) b p t r.gs r.cs r.room vH vI vA vW (M.map (Ent.h r.g)) (M.map fun e=>(e.h r.g).id) (M.map Ent.up) ws/\Alike p t r/\ws.length=M.length/\(∀i,vH.ownBlock=some i->F i)/\(∀i,vI.ownBlock=some i->F i)/\(∀i,vA.ownBlock=some i->F i)/\(∀i,vW.ownBlock=some i->F i)
section
variable {w w':World} {B:Nat} {F G:Nat->Prop} {b:Nat} {r:Ru} {M:List Ent}
theorem RfS.on (h:RfS w B F b r M) (k:Kp G w w') (hG:∀ i,F i->¬G i) (hB:∀ i,G i->B<=i):RfS w' B F b r M:=by
 obtain ⟨h0,h1,h2,p,t,vH,vI,vA,vW,ws,h3,h4,h5,g1,g2,g3,g4⟩:=h
 refine ⟨Nat.le_trans h0 k.size,fun i hi=>⟨(h1 i hi).1,Nat.lt_of_lt_of_le (h1 i hi).2 k.size⟩,h2,p,t,vH,vI,vA,vW,ws,h3.on k ?_,h4,h5,g1,g2,g3,g4⟩
 rintro i (hi|rfl|hi|hi|hi|hi)
 ·exact fun hg=>absurd (hB i hg) (by omega)
 ·exact hG _ h2
 ·exact hG _ (g1 i hi)
 ·exact hG _ (g2 i hi)
 ·exact hG _ (g3 i hi)
 ·exact hG _ (g4 i hi)
theorem RfS.below (h:RfS w B F b r M) (hb:Below w.heap.size w w'):RfS w' B F b r M:=h.on (G:=fun _=>False) (Kp.of hb) (fun _ _ hf=>hf) fun _ hf=>hf.elim
theorem RfS.wide (h:RfS w B F b r M) (hF:∀ i,F i->G i) (hG:∀ i,G i->B<=i/\i<w.heap.size):RfS w B G b r M:=by
 obtain ⟨h0,_,h2,p,t,vH,vI,vA,vW,ws,h3,h4,h5,g1,g2,g3,g4⟩:=h
 exact ⟨h0,hG,hF _ h2,p,t,vH,vI,vA,vW,ws,h3,h4,h5,fun i hi=>hF _ (g1 i hi),fun i hi=>hF _ (g2 i hi),fun i hi=>hF _ (g3 i hi),fun i hi=>hF _ (g4 i hi)⟩
end
theorem qge_ {w:World} {B:Nat} {cs:Array Value} {T:TypeId} {u:Value} (h:Row1 B cs T u w):w.ownsRow 0 T cs.size u 1 cs.toList:=by
 obtain ⟨g,rfl,h1,h2⟩:=h
 exact ⟨by simp,.inr ⟨g,1,cs,rfl,Nat.zero_le _,h2,Nat.le_refl _,by decide,by simp,by rw[Nat.one_mul,List.take_of_length_le (by simp)]⟩⟩
theorem qdq_ {w:World} {B:Nat} {cs:Array Value} {T:TypeId} {u:Value} (h:Row1 B cs T u w):∀ i,u.ownBlock=some i->B<=i/\i<w.heap.size:=by
 obtain ⟨g,rfl,h1,h2⟩:=h
 intro i hi
 cases hi
 exact ⟨h1,h2.lt⟩
theorem qafm_ (p:NN.Pr) (hp:p.ok) (h1:p.one) (t:Tl) (tt:p.tl=t.C) (ht:t.ok) (gs:List Gt) (cs:List Ck) (hgn:t.gn=gs.length) (hcn:t.cn=cs.length) (room:Int) (w0 w:World) (h0:Below w0.heap.size w0 w) (hG:GatesAt w0 t.ga gs) (hC:ChecksAt w0 t.ca cs) :
  Calls Tryz.prog 26 #[.agg (NN.prA p),.int .i64 room] w fun e w'=>∃ b,e = .returned (.pointer (some ⟨b,0,none⟩))/\RfS w' w0.heap.size (fun i=>w.heap.size<=i/\i<w'.heap.size) b ⟨p,t.g,gs,cs,clampR room⟩ [entZ]/\Below w.heap.size w w':=by
 refine (rfnew_w p hp t tt ht t.g rfl ht.2 t.g.id (qo_ _) room w (h_ fun w' _=>rid_at t.g ht.2 w')).mono ?_
 rintro e w' ⟨u,rfl,⟨b,cs',rfl,hb0,hh,vH,vI,vA,vW,rfl,rH,rI,rA,z,hz,rW⟩,hb⟩
 have sH:=qge_ rH
 have sI:=qge_ rI
 have sA:=qge_ rA
 have sW:=qge_ rW
 rw[qs_ ht.2] at sH
 rw[show (bytesV t.g.id).size=32 by simp[bytesV,qo_]] at sI
 rw[NN.qbl_] at sW
 have hs0:=h0.size
 have hb2:Below w0.heap.size w0 w':=h0.trans (hb.mono hs0)
 have no:∀ {cs:Array Value} {T:TypeId} {u:Value},Row1 w.heap.size cs T u w'->∀ k,u.ownBlock=some k->¬k<w0.heap.size:=fun hr k hk hlt=>absurd (qdq_ hr k hk).1 (by omega)
 refine ⟨b,rfl,⟨Nat.le_trans hs0 hb.size,fun i hi=>⟨Nat.le_trans hs0 hi.1,hi.2⟩,⟨hb0,hh.lt⟩,p,t,vH,vI,vA,vW,[z],?_,⟨rfl,rfl,rfl,rfl,rfl,rfl⟩,rfl,qdq_ rH,qdq_ rI,qdq_ rA,qdq_ rW⟩,hb⟩
 exact {
  has:=hh,pok:=hp,one:=h1,tt:=tt,tok:=ht,gn:=hgn,cn:=hcn
  rowH:=by simpa [Ar.h_nil,entZ,hdA] using sH
  rowI:=by simpa [Ar.h_nil,entZ,qag_] using sI
  rowA:=by simpa [entZ] using sA
  rowW:=by simpa using sW
  gates:=qon_ (hG.below hb2) fun h0 ad ha=>by
   obtain ⟨ab,ao,ha',hlt,_⟩:=hG h0
   rw[ha'] at ha;cases ha;exact hlt
  checks:=qkm_ (hC.below hb2) fun h0 ad ha=>by
   obtain ⟨ab,ao,ha',hlt,_⟩:=hC h0
   rw[ha'] at ha;cases ha;exact hlt
  nb:=by omega
  nH:=no rH,nI:=no rI,nA:=no rA,nW:=no rW
  lt:=fun i hi=>Nat.lt_of_lt_of_le hi hb2.size
  good:=fun h hh=>by
   obtain rfl:h=t.g:=by simpa [Ar.h_nil,entZ] using hh
   exact ht.2
  name:=fun l hl=>by
   obtain rfl:l=t.g.id:=by simpa [Ar.h_nil,entZ] using hl
   exact qo_ _
  small:=fun x hx=>by
   obtain rfl:x=z:=by simpa using hx
   exact hz }
end Go.Proofs.YtcppnfkjklhhdaaGreatDoor.An
namespace Go.Proofs.YtcppnfkjklhhdaaGreatDoor.An
open Go.RowKit Mem Sc NN.Rg2
open Ar (Ent Ru entZ)
theorem rf84 {w:World} {b:Nat} {p:NN.Pr} {vH vI vA vW:Value} {room:Nat} (h:Has w b (rfA p vH vI vA vW room) 45) (hp:p.ok):w.cell? ⟨b,84,none⟩=some vI:=by
 rw[Has.cell h 84]
 unfold rfA rfC
 rw[List.getElem?_toArray,List.getElem?_append_right (by rw[qt_ hp];omega),qt_ hp]
 rfl
theorem row_at {w:World} {base:Nat} {T:TypeId} {size:Nat} {v:Value} {n:Nat} {A cs C:List Value} (h:w.ownsRow base T size v n (A ++ (cs ++ C))) (hn:0<n):∃ g c,v = .slice (some ⟨g,0,none⟩) n c/\w.rangeAt g A.length cs:=by
 rcases h.2 with ⟨_,h0⟩|⟨g,c,cur,rfl,_,h2,_,_,_,h6⟩
 ·omega
 ·refine ⟨g,c,rfl,fun j u hu=>?_⟩
  have e:(cur.toList.take (n*size))[A.length+j]?=some u:=by
   rw[h6,List.getElem?_append_right (by omega),Nat.add_sub_cancel_left,List.getElem?_append_left (List.getElem?_eq_some_iff.1 hu).1]
   exact hu
  rw[Has.cell (show Has w g cur T from h2),<-Array.getElem?_toList]
  rw[List.getElem?_take] at e
  split at e
  ·exact e
  ·cases e
theorem qeq_ {α:Type} (f:α->List Value) (size:Nat):∀ (l:List α) (_:∀ x ∈ l,(f x).length=size) (i:Nat) (x:α),l[i]?=some x->∃ A C,l.flatMap f=A ++ (f x ++ C)/\A.length=i*size
 | y :: l,_,0,x,h=>⟨[],l.flatMap f,by cases h;simp,by simp⟩
 | y :: l,hf,i+1,x,h=>by
  obtain ⟨A,C,h1,h2⟩:=qeq_ f size l (fun x hx=>hf x (List.mem_cons_of_mem _ hx)) i x (by simpa using h)
  exact ⟨f y ++ A,C,by simp[h1],by rw[List.length_append,hf y List.mem_cons_self,h2,Nat.add_mul];omega⟩
theorem qmo_ {w:World} {v:Value} {ids:List (List UInt8)} (h:w.ownsRow 0 28 32 v ids.length (ids.flatMap Lib.byteCells)) (h32:∀ l ∈ ids,l.length=32) {k:Nat} {x:List UInt8} (hx:ids[k]?=some x):∃ g c,v = .slice (some ⟨g,0,none⟩) ids.length c/\w.rangeAt g (k*32) (Lib.byteCells x):=by
 obtain ⟨A,C,e,hA⟩:=qeq_ Lib.byteCells 32 ids (fun l hl=>by rw[Lib.byteCells_length,h32 l hl]) k x hx
 rw[e] at h
 have:=(List.getElem?_eq_some_iff.1 hx).1
 obtain ⟨g,c,e1,e2⟩:=row_at h (by omega)
 rw[hA] at e2
 exact ⟨g,c,e1,e2⟩
def idx (ids:List (List UInt8)) (id:List UInt8):Int:=match ids.findIdx? (· == id) with|some i=>(i:Int)|none=>-1
theorem rfind_w (p:NN.Pr) (hp:p.ok) (vH vI vA vW:Value) (room b:Nat) (ids:List (List UInt8)) (n:Nat) (hn:n=ids.length) (hl:n<=4611686018427387904) (hpos:0<n) (h32:∀ l ∈ ids,l.length=32) (id:List UInt8) (i32:id.length=32) (z:Int) (hz:idx ids id=z) (w:World)
  (hA:Has w b (rfA p vH vI vA vW room) 45) (hI:w.ownsRow 0 28 32 vI ids.length (ids.flatMap Lib.byteCells)) :
  Ca_ 20 #[.pointer (some ⟨b,0,none⟩),.agg (bytesV id)] w (.int .i64 z):=by
 obtain ⟨x0,hx0⟩:∃ x,ids[0]?=some x:=⟨_,List.getElem?_eq_getElem (by rw[<-hn];exact hpos)⟩
 obtain ⟨g,c,rfl,hr0⟩:=qmo_ hI h32 hx0
 clear hr0 hx0
 rw[<-hn] at hA hI
 have HN:=h_ hn
 have HZ:=h_ hz
 have c84:=rf84 hA hp
 have s1:(bytesV id).size=32:=by rw[qp_];exact i32
 have HI:=h_ fun (w':World) (hb:Below w.heap.size w w')=>kp_row hI (Kp.of (F:=fun _=>False) hb) fun _ _ hf=>hf
 clear hn hz hI hA
 go_enter Tryz.func20,Tryz.ntmps20
 go_upto_region 1 with fail
 generalize hw0:World.alloc _ _=v0
 have hB:Below w.heap.size w v0:=bl_ hw0
 have hX:Has v0 w.heap.size (bytesV id) 28:=by rw[<-hw0];exact Has.new _ _
 have c84:v0.cell? ⟨b,84,none⟩=some (.slice (some ⟨g,0,none⟩) n c):=by rw[<-c84];exact World.cell?_of_block (hB.block b (block_lt_of_cell c84))
 clear hw0
 obtain ⟨bX,hbX⟩:∃ x,x=w.heap.size:=⟨_,rfl⟩
 rw[<-hbX] at hX |-
 clear hbX
 have o1:=qy_ id
 have ng:Hid (∀d os,(Sort.grow (redrawn v0 d) os).cell? ⟨b,84,none⟩=some (.slice (some ⟨g,0,none⟩) n c)):=h_ (cell_regrown c84)
 go_wp2_with fail
 go_loopw [12] (fun i wr=>∃ k:Nat,k<=n/\i = .int .i64 (k:Int)/\Hid (ids.findIdx? (· == id)=((ids.drop k).findIdx? (· == id)).map (· + k))/\Has wr bX (bytesV id) 28/\Below w.heap.size w wr) (fun i _=>n - (intOf i).toNat)
 case atStart=>exact ⟨0,by omega,rfl,h_ (by simp),hX,hB⟩
 case round=>
  clear hX hB c84
  obtain ⟨k,hk,rfl,HF,hX,hB⟩:=hrel
  by_cases hlt:k<n
  ·obtain ⟨x,hx⟩:∃ x,ids[k]?=some x:=⟨_,List.getElem?_eq_getElem (by rw[<-HN.out];exact hlt)⟩
   have x32:x.length=32:=h32 x (List.mem_of_getElem? hx)
   have hI:=HI.out _ hB
   rw[HN.out] at hI
   obtain ⟨g2,c2,e2,hr⟩:=qmo_ hI h32 hx
   obtain rfl:g=g2:=by cases e2;rfl
   clear e2 hI
   have th:=qe_ x32
   have hd:ids.drop k=x :: ids.drop (k+1):=by
    rw[List.drop_eq_getElem_cons (by rw[<-HN.out];exact hlt)]
    rw[List.getElem?_eq_getElem (by rw[<-HN.out];exact hlt)] at hx
    cases hx;rfl
   have hF:=HF.out
   rw[hd,List.findIdx?_cons] at hF
   have HR:=h_ hr
   clear hr hx hd
   cases he:(x==id)
   ·have qn:=hn_eql x id x32 i32 false he
    rw[he] at hF
    have HF2:Hid (ids.findIdx? (· == id)=((ids.drop (k+1)).findIdx? (· == id)).map (· + (k+1))):=h_ (by
     rw[hF,if_neg Bool.false_ne_true,Option.map_map];exact congrArg (fun f=>Option.map f _) (funext fun i=>by show i+1+k=i+(k+1);omega))
    clear hF he
    have ht:=HR.out
    have sx:(bytesV x).size=32:=by rw[qp_];exact x32
    have ox:=qy_ x
    go_upto_region 4 with (first
     | (with_reducible refine qq_ rfl _ rfl g (k*32) rfl x ht th ?_)
     | (with_reducible refine qbo_ rfl _ _ rfl _ (bytesV x) (bytesV x) rfl rfl rfl sx ox h0 (h0_new wr _) rfl ?_))
    generalize hw4:World.setRow _ _ _=v3
    have hb2:Below wr.heap.size wr v3:=bw_ hw4
    have hE:Has v3 wr.heap.size (bytesV x) 28:=by rw[<-hw4];exact Has.row (h0_new wr _) _
    replace hX:=qd_ hb2 hX hX.lt
    replace hB:=tb_ hB hb2
    clear hw4 hb2 ht
    obtain ⟨bE,hbE⟩:∃ b,b=wr.heap.size:=⟨_,rfl⟩
    rw[<-hbE] at hE |-
    clear hbE
    go_wp2_with (first
     | (with_reducible refine qdi_ rfl _ rfl _ rfl _ hE sx ?_)
     | (with_reducible refine qdi_ rfl _ rfl _ rfl _ hX s1 ?_))
    go_roundw
    case rel=>exact ⟨k+1,by omega,rfl,HF2,hX,hB⟩
    case measure=>simp[intOf];omega
   ·have qn:=hn_eql x id x32 i32 true he
    have hzk:z=(k:Int):=by
     rw[<-HZ.out];unfold idx;rw[hF,he];simp
    subst hzk
    clear hF he
    have ht:=HR.out
    have sx:(bytesV x).size=32:=by rw[qp_];exact x32
    have ox:=qy_ x
    go_upto_region 4 with (first
     | (with_reducible refine qq_ rfl _ rfl g (k*32) rfl x ht th ?_)
     | (with_reducible refine qbo_ rfl _ _ rfl _ (bytesV x) (bytesV x) rfl rfl rfl sx ox h0 (h0_new wr _) rfl ?_))
    generalize hw4:World.setRow _ _ _=v3
    have hb2:Below wr.heap.size wr v3:=bw_ hw4
    have hE:Has v3 wr.heap.size (bytesV x) 28:=by rw[<-hw4];exact Has.row (h0_new wr _) _
    replace hX:=qd_ hb2 hX hX.lt
    replace hB:=tb_ hB hb2
    clear hw4 hb2 ht
    obtain ⟨bE,hbE⟩:∃ b,b=wr.heap.size:=⟨_,rfl⟩
    rw[<-hbE] at hE |-
    clear hbE
    go_wp2_with (first
     | (with_reducible refine qdi_ rfl _ rfl _ rfl _ hE sx ?_)
     | (with_reducible refine qdi_ rfl _ rfl _ rfl _ hX s1 ?_))
    go_ret
    exact ⟨rfl,hB⟩
  ·have hzk:z = -1:=by
    rw[<-HZ.out];unfold idx;rw[HF.out,List.drop_eq_nil_of_le (by rw[<-HN.out];omega)];rfl
   subst hzk
   go_wp2_with fail
   go_ret
   exact ⟨rfl,hB⟩
theorem idx_fnd (r:Ru) (M:List Ent) (id:List UInt8):idx (M.map fun e=>(e.h r.g).id) id=plc (Ar.fnd r.g M id):=by
 unfold idx plc Ar.fnd
 rw[List.findIdx?_map]
 rfl
theorem qjc_ {w:World} {B:Nat} {F:Nat->Prop} {b:Nat} {r:Ru} {M:List Ent} (h:RfS w B F b r M) (hpos:0<M.length) (hl:M.length<=1000) (id:List UInt8) (i32:id.length=32) :
  Ca_ 20 #[.pointer (some ⟨b,0,none⟩),.agg (bytesV id)] w (.int .i64 (plc (Ar.fnd r.g M id))):=by
 obtain ⟨_,_,_,p,t,vH,vI,vA,vW,ws,h3,_⟩:=h
 have hz:=idx_fnd r M id
 have hn:M.length=(M.map fun e=>(e.h r.g).id).length:=by rw[List.length_map]
 have h32:=h3.name
 have hA:=h3.has
 have hI:=h3.rowI
 have hp:=h3.pok
 clear h3
 generalize (M.map fun e=>(e.h r.g).id)=ids at *
 generalize plc (Ar.fnd r.g M id)=z at *
 generalize M.length=n at *
 have hl2:n<=4611686018427387904:=Nat.le_trans hl (by decide)
 exact rfind_w p hp vH vI vA vW r.room b ids n hn hl2 hpos h32 id i32 z hz w hA hI
end Go.Proofs.YtcppnfkjklhhdaaGreatDoor.An
namespace Go.Proofs.YtcppnfkjklhhdaaGreatDoor.An
open Go.RowKit Mem Sc NN.Rg2
open Ar (Ent Ru entZ Ok Row)
theorem qmp_ {w:World} {ops:Array Oper} {rest:List Oper} {o:Oper} {a:Act} {Q:Exit->Act->World->Prop} (hgd:o.guard=none) (s x:Operand) (ho:o.op = .call { callee:=.builtin .append,args:=#[s,x],argTypes:=#[42,42] }) (hty:o.type=42) (base g:Nat) (z:Int) (hs:a.eval s = .slice (some ⟨g,0,none⟩) 1 1) (hg:Has w g #[.int .i64 z] 3) (hbg:base<=g) (hbase:base<=w.heap.size)
  (v:Value) (m:Nat) (l:List Int) (hx:a.eval x=v) (hv:w.ownsRow base 3 1 v m (l.map (Value.int .i64))) (hn:m<=900)
  (h:∀ v' w',w'.ownsRow base 3 1 v' (m+1) ((z :: l).map (Value.int .i64))->w.grownBy w' (some g)->wpList Tryz.prog ops Q rest (a.put o.dst v') w'):wpList Tryz.prog ops Q (o :: rest) a w:=by
 obtain ⟨i,y0,hi,hzz,h1,h2,h3⟩:=qgz_
 have hown:w.ownsRow base 3 1 (.slice (some ⟨g,0,none⟩) 1 1) 1 [.int .i64 z]:=⟨rfl,.inr ⟨g,1,#[.int .i64 z],rfl,hbg,hg,Nat.le_refl _,by decide,rfl,rfl⟩⟩
 obtain ⟨hlen,⟨rfl,hm0⟩|⟨g2,c,cur,rfl,q1,q2,q3,q4,q5,q6⟩⟩:=hv
 ·subst hm0
  obtain rfl:l=[]:=by simpa using hlen
  have hrun:=run_append_owned_none (P:=Tryz.prog) (w:=w) base 42 42 3 i 1 Tryz.underlying42 hi _ 1 _ hown
  refine wpList_plain hgd fun _ hK=>?_
  unfold Oper.wp execOp
  simp only[ho,hty,resolve,invoke,builtin,Sem.run_bind,Sem.run_pure,Result.andThen_ok,List.map_toArray,List.map_cons,List.map_nil,hs,hx,hrun]
  exact hK _ _ (h _ w hown ⟨rfl,rfl,rfl,Nat.le_refl _,fun _ _ _=>rfl⟩)
 ·refine wpList_append_own_at (P:=Tryz.prog) w hgd s x 42 ho base 3 i y0 1 8 Tryz.underlying42 hi hzz h1 h2 h3 (by decide) _ 1 _ hs hown ⟨g2,0,none⟩ m c (l.map (Value.int .i64)) hx hlen (fun j u hj=>?_) (fun u hu=>?_) (by unfold maxLen;omega) (by omega) hbase (fun v' w' g1 g3 _ _=>?_)
  ·rw[Addr.add_lit,Nat.zero_add,Has.cell (show Has w g2 cur 3 from q2),<-Array.getElem?_toList]
   rw[<-q6,List.getElem?_take] at hj
   split at hj
   ·exact hj
   ·cases hj
  ·obtain ⟨t,_,rfl⟩:=List.mem_map.1 hu;rfl
  ·rw[Nat.add_comm] at g1
   exact h v' w' g1 g3
theorem rf85 {w:World} {b:Nat} {p:NN.Pr} {vH vI vA vW:Value} {room:Nat} (h:Has w b (rfA p vH vI vA vW room) 45) (hp:p.ok):w.cell? ⟨b,85,none⟩=some vA:=by
 rw[Has.cell h 85]
 unfold rfA rfC
 rw[List.getElem?_toArray,List.getElem?_append_right (by rw[qt_ hp];omega),qt_ hp]
 rfl
theorem qer_ {w:World} {v:Value} {l:List Int} {base n:Nat} (h:w.ownsRow base 3 1 v n (l.map (Value.int .i64))) {k:Nat} {x:Int} (hx:l[k]?=some x):∃ g c,v = .slice (some ⟨g,0,none⟩) n c/\w.cell? ⟨g,k,none⟩=some (.int .i64 x):=by
 have hk:=(List.getElem?_eq_some_iff.1 hx).1
 obtain ⟨hlen,⟨rfl,hm0⟩|⟨g2,c,cur,rfl,q1,q2,q3,q4,q5,q6⟩⟩:=h
 ·rw[List.length_map] at hlen;omega
 ·refine ⟨g2,c,rfl,?_⟩
  have e:(cur.toList.take (n*1))[k]?=some (Value.int .i64 x):=by rw[q6,List.getElem?_map,hx];rfl
  rw[Has.cell (show Has w g2 cur 3 from q2),<-Array.getElem?_toList]
  rw[List.getElem?_take] at e
  split at e
  ·exact e
  ·cases e
def Left (M:List Ent) (L l:List Int) (k:Int) (m:Nat):Prop:=∃ L0,Row M k L0/\L0 ++ l=L/\l.length=m
theorem Left.done {M:List Ent} {L l:List Int} {k:Int} {m:Nat} (h:Left M L l k m) (hk:k = -1):l=L/\m=L.length:=by
 obtain ⟨L0,h1,h2,h3⟩:=h
 rcases h1.inv with ⟨_,rfl⟩|⟨j,_,_,h4,_⟩
 ·obtain rfl:l=L:=h2
  exact ⟨rfl,h3.symm⟩
 ·omega
theorem Left.next {r:Ru} {M:List Ent} (hM:Ok r M) {L l:List Int} {k:Int} {m:Nat} (h:Left M L l k m) (hk:k ≠ -1):∃ (j:Nat) (d:Ent),k=(j:Int)/\M[j]?=some d/\-1<=d.up/\d.up<(j:Int)/\m+1<=L.length/\Left M L ((j:Int) :: l) d.up (m+1):=by
 obtain ⟨L0,h1,h2,h3⟩:=h
 rcases h1.inv with ⟨h4,_⟩|⟨j,d,L',rfl,h4,h5,rfl⟩
 ·exact absurd h4 hk
 ·have hu:-1<=d.up/\d.up<(j:Int):=by
   rcases hM.ahead h4 with ⟨rfl,rfl⟩|⟨i,a,h,q1,_,q3,_⟩
   ·simp[Ar.entZ]
   ·omega
  refine ⟨j,d,rfl,h4,hu.1,hu.2,?_,L',h5,by rw[<-h2,List.append_assoc];rfl,by rw[List.length_cons,h3]⟩
  rw[<-h2,List.length_append,List.length_append,List.length_singleton]
  omega
theorem qyt_ (p:NN.Pr) (hp:p.ok) (vH vI vA vW:Value) (room b:Nat) (r:Ru) (M:List Ent) (hM:Ok r M) (hl:M.length<=900) (i:Nat) (e:Ent) (he:M[i]?=some e) (L:List Int) (hL:Row M (i:Int) L) (n:Nat) (hn:n=M.length) (w:World)
  (hA:Has w b (rfA p vH vI vA vW room) 45) (hI:w.ownsRow 0 3 1 vA n ((M.map Ent.up).map (Value.int .i64))) :
  Calls Tryz.prog 31 #[.pointer (some ⟨b,0,none⟩),.int .i64 (i:Int)] w fun r w'=>∃ (v:Value),r = .returned v/\w'.ownsRow w.heap.size 3 1 v L.length (L.map (Value.int .i64))/\Below w.heap.size w w':=by
 obtain ⟨g,c,rfl,hr0⟩:=qer_ hI (k:=i) (x:=e.up) (by rw[List.getElem?_map,he];rfl)
 clear hr0
 have c85:=rf85 hA hp
 have HI:=h_ fun (w':World) (hb:Below w.heap.size w w')=>kp_row hI (Kp.of (F:=fun _=>False) hb) fun _ _ hf=>hf
 have HC:=h_ fun (w':World) (hb:Below w.heap.size w w')=>(World.cell?_of_block (hb.block b (block_lt_of_cell c85))).trans c85
 have HN:=h_ hn
 have HS:Hid (Left M L [] (i:Int) 0):=h_ ⟨L,hL,List.append_nil _,rfl⟩
 have hL9:L.length<=900:=by
  have:=hL.len hM he
  have:=(hM.chain i e he).1
  have:=(List.getElem?_eq_some_iff.1 he).1
  omega
 have HL:=h_ hL9
 clear hn hI hA c85 he hL9 hL
 go_enter Tryz.func31,Tryz.ntmps31
 go_wp2_with fail
 go_loopw [5,6] (fun v i wr=>∃ (cv:Value) (k:Int) (l:List Int) (m:Nat),v=cv/\i = .int .i64 k/\Hid (Left M L l k m/\-1<=k)/\Hid (wr.ownsRow w.heap.size 3 1 cv m (l.map (Value.int .i64)))/\Below w.heap.size w wr) (fun _ i _=>(intOf i+1).toNat)
 case atStart=>exact ⟨_,(i:Int),[],0,rfl,rfl,h_ ⟨HS.out,by omega⟩,h_ ⟨rfl,.inl ⟨rfl,rfl⟩⟩,Below.refl _ _⟩
 case round=>
  obtain ⟨cv,k,l,m,rfl,rfl,HK,HV,hB⟩:=hrel
  by_cases hk:k = -1
  ·have hV:=HV.out
   obtain ⟨e1,e2⟩:=HK.out.1.done hk
   rw[e1,e2] at hV
   subst hk
   clear e1 e2
   go_wp2_with fail
   go_ret
   exact ⟨_,rfl,hV,hB⟩
  ·obtain ⟨j,d,rfl,hd,l2,l3,l4,l5⟩:=HK.out.1.next hM hk
   have hjn:j<n:=by rw[HN.out];exact (List.getElem?_eq_some_iff.1 hd).1
   have hm9:m<=900:=by have:=HL.out;omega
   have hk0:(0:Int)<=(j:Int):=by omega
   have hmk:=fun w=>qdw_ w (j:Int)
   have HK2:Hid (Left M L ((j:Int) :: l) d.up (m+1)/\-1<=d.up):=h_ ⟨l5,l2⟩
   have HM:Hid ((intOf (.int .i64 d.up)+1).toNat<(intOf (.int .i64 (j:Int))+1).toNat):=h_ (by simp[intOf];omega)
   have HD:Hid ((M.map Ent.up)[j]?=some d.up):=h_ (by rw[List.getElem?_map,hd];rfl)
   have HM9:=h_ hm9
   clear hk l2 l3 l4 l5 hd hm9
   generalize d.up=z at *
   have hb1:Below wr.heap.size wr (wr.alloc (.cells #[.int .i64 (j:Int)] 3)):=(Below.refl _ _).alloc (Nat.le_refl _) _
   have hg1:Has (wr.alloc (.cells #[.int .i64 (j:Int)] 3)) wr.heap.size #[.int .i64 (j:Int)] 3:=Has.new _ _
   have hV1:=kp_row HV.out (Kp.of (F:=fun _=>False) hb1) fun _ _ hf=>hf
   have hs1:=hB.size
   have hs2:=Nat.le_trans hs1 hb1.size
   go_upto_region 4 with ((refine qmp_ rfl _ _ rfl rfl w.heap.size wr.heap.size (j:Int) rfl hg1 hs1 hs2 _ m l rfl hV1 HM9.out ?_);intro v' w2 hown hgr)
   have hB2:Below w.heap.size w w2:=(tb_ hB hb1).trans (qdh_ hgr hs1 hs2)
   have c1:=HC.out _ hB2
   obtain ⟨g2,c2,e2,hr⟩:=qer_ (HI.out _ hB2) HD.out
   obtain rfl:g=g2:=by cases e2;rfl
   clear e2 hb1 hg1 hV1 hs1 hs2 hgr hmk
   have HO:=h_ hown
   clear hown
   go_wp2_with fail
   go_roundw
   case rel=>exact ⟨_,z,(j:Int) :: l,m+1,rfl,rfl,HK2,HO,hB2⟩
   case measure=>exact HM.out
theorem qfg_ {w:World} {B:Nat} {F:Nat->Prop} {b:Nat} {r:Ru} {M:List Ent} (h:RfS w B F b r M) (hM:Ok r M) (hl:M.length<=900) (i:Nat) (e:Ent) (he:M[i]?=some e) (L:List Int) (hL:Row M (i:Int) L) :
  Calls Tryz.prog 31 #[.pointer (some ⟨b,0,none⟩),.int .i64 (i:Int)] w fun r w'=>∃ (v:Value),r = .returned v/\w'.ownsRow w.heap.size 3 1 v L.length (L.map (Value.int .i64))/\Below w.heap.size w w':=by
 obtain ⟨_,_,_,p,t,vH,vI,vA,vW,ws,h3,_⟩:=h
 have hA:=h3.has
 have hI:=h3.rowA
 have hp:=h3.pok
 clear h3
 rw[List.length_map] at hI
 exact qyt_ p hp vH vI vA vW r.room b r M hM hl i e he L hL M.length rfl w hA hI
end Go.Proofs.YtcppnfkjklhhdaaGreatDoor.An
namespace Go.Proofs.YtcppnfkjklhhdaaGreatDoor.An
open Go.RowKit Mem Sc NN.Rg2
open Ar (Ent Ru entZ Ok)
theorem rf83 {w:World} {b:Nat} {p:NN.Pr} {vH vI vA vW:Value} {room:Nat} (h:Has w b (rfA p vH vI vA vW room) 45) (hp:p.ok):w.cell? ⟨b,83,none⟩=some vH:=by
 rw[Has.cell h 83]
 unfold rfA rfC
 rw[List.getElem?_toArray,List.getElem?_append_right (by rw[qt_ hp];omega),qt_ hp]
 rfl
theorem hds_at {w:World} {v:Value} {hs:List Hd} (h:w.ownsRow 0 30 68 v hs.length (hs.flatMap hdC)) (hok:∀ x ∈ hs,x.ok) {k:Nat} {x:Hd} (hx:hs[k]?=some x):∃ g c,v = .slice (some ⟨g,0,none⟩) hs.length c/\w.rangeAt g (k*68) (hdC x):=by
 obtain ⟨A,C,e,hA⟩:=qeq_ hdC 68 hs (fun l hl=>qh_ (hok l hl)) k x hx
 rw[e] at h
 have:=(List.getElem?_eq_some_iff.1 hx).1
 obtain ⟨g,c,e1,e2⟩:=row_at h (by omega)
 rw[hA] at e2
 exact ⟨g,c,e1,e2⟩
def LeftH (g:Hd) (M:List Ent) (k:Int) (hs:List Hd):Prop:=(k = -1/\hs=[])\/∃ (j:Nat) (d:Ent),k=(j:Int)/\M[j]?=some d/\hs=g :: d.hs
theorem qafn_ {r:Ru} {M:List Ent} (hM:Ok r M) {j:Nat} {d:Ent} (hd:M[j]?=some d):∃ q,LeftH r.g M d.up q/\r.g :: d.hs=q ++ [d.h r.g]/\-1<=d.up/\d.up<(j:Int):=by
 by_cases h0:0<j
 ·obtain ⟨i,d',h,now,h1,h2,rfl,_⟩:=hM.up j d h0 hd
  exact ⟨r.g :: d'.hs,.inr ⟨i,d',rfl,h2,rfl⟩,by rw[Ar.h_app];simp,by show -1<=((i:Nat):Int);omega,by show ((i:Nat):Int)<(j:Int);omega⟩
 ·obtain rfl:j=0:=by omega
  rw[hM.zero] at hd
  cases hd
  exact ⟨[],.inl ⟨rfl,rfl⟩,rfl,by simp[entZ],by simp[entZ]⟩
theorem qafo_ (p:NN.Pr) (hp:p.ok) (vH vI vA vW:Value) (room b:Nat) (r:Ru) (M:List Ent) (hM:Ok r M) (hok:∀ x ∈ M.map (Ent.h r.g),x.ok) (hl:M.length<=900) (i:Nat) (e:Ent) (he:M[i]?=some e) (n:Nat) (hn:n=M.length) (w:World)
  (hA:Has w b (rfA p vH vI vA vW room) 45) (hH:w.ownsRow 0 30 68 vH (M.map (Ent.h r.g)).length ((M.map (Ent.h r.g)).flatMap hdC)) (hI:w.ownsRow 0 3 1 vA n ((M.map Ent.up).map (Value.int .i64))) :
  Calls Tryz.prog 46 #[.pointer (some ⟨b,0,none⟩),.int .i64 (i:Int)] w fun r' w'=>∃ ad c,r' = .returned (.slice ad (e.hs.length+1) c)/\HeadersAt w' ad (r.g :: e.hs)/\e.hs.length+1<=c/\Below w.heap.size w w':=by
 obtain ⟨g,c,rfl,hr0⟩:=qer_ hI (k:=i) (x:=e.up) (by rw[List.getElem?_map,he];rfl)
 obtain ⟨gH,cH,rfl,hr1⟩:=hds_at hH hok (k:=i) (x:=e.h r.g) (by rw[List.getElem?_map,he];rfl)
 clear hr0 hr1
 rw[List.length_map,<-hn] at hA
 have c85:=rf85 hA hp
 have c83:=rf83 hA hp
 have HI:=h_ fun (w':World) (hb:Below w.heap.size w w')=>kp_row hI (Kp.of (F:=fun _=>False) hb) fun _ _ hf=>hf
 have HH:=h_ fun (w':World) (hb:Below w.heap.size w w')=>kp_row hH (Kp.of (F:=fun _=>False) hb) fun _ _ hf=>hf
 have HC:=h_ fun (w':World) (hb:Below w.heap.size w w')=>(World.cell?_of_block (hb.block b (block_lt_of_cell c85))).trans c85
 have HD:=h_ fun (w':World) (hb:Below w.heap.size w w')=>(World.cell?_of_block (hb.block b (block_lt_of_cell c83))).trans c83
 have HN:=h_ hn
 have HS:Hid (LeftH r.g M (i:Int) (r.g :: e.hs)):=h_ (.inr ⟨i,e,rfl,he,rfl⟩)
 have hi9:(r.g :: e.hs).length<=900:=by
  have:=(hM.chain i e he).1
  have:=(List.getElem?_eq_some_iff.1 he).1
  simp;omega
 have HL:=h_ hi9
 rw[show e.hs.length+1=(r.g :: e.hs).length by simp]
 generalize r.g :: e.hs=tot at *
 clear hn hI hH hA c85 c83 he hi9
 go_enter Tryz.func46,Tryz.ntmps46
 go_wp2_with fail
 go_loopw [5,6] (fun v i wr=>∃ (ad:Option Addr) (m c:Nat) (k:Int) (z q:List Hd),v = .slice ad m c/\i = .int .i64 k/\Hid (LeftH r.g M k q/\-1<=k/\z.length=m/\q ++ z=tot/\(ad=none->m=0/\c=0)/\m<=c)/\HeadersAt wr ad z/\Below w.heap.size w wr) (fun _ i _=>(intOf i+1).toNat)
 case atStart=>exact ⟨none,0,0,(i:Int),[],tot,rfl,rfl,h_ ⟨HS.out,by omega,rfl,by simp,fun _=>⟨rfl,rfl⟩,Nat.le_refl _⟩,fun h=>absurd h (by simp),Below.refl _ _⟩
 case round=>
  obtain ⟨ad,m,cc,k,z,q,rfl,rfl,HK,hHA,hB⟩:=hrel
  rcases HK.out with ⟨⟨rfl,rfl⟩|⟨j,d,hk,hd,rfl⟩,hk1,hlm,htot,hnil,hmc⟩
  ·have e1:z=tot:=by simpa using htot
   have e2:m=tot.length:=by rw[<-hlm,e1]
   have HE:=h_ (And.intro e1 (And.intro e2 hmc))
   clear hk1 hlm htot hnil e1 e2 hmc
   go_wp2_with fail
   go_ret
   exact ⟨ad,cc,by rw[<-HE.out.2.1];rfl,by rw[<-HE.out.1];exact hHA,by rw[<-HE.out.2.1];exact HE.out.2.2,hB⟩
  ·subst hk
   obtain ⟨q2,l1,l2,l3,l4⟩:=qafn_ hM hd
   have hjn:j<n:=by rw[HN.out];exact (List.getElem?_eq_some_iff.1 hd).1
   have hk0:(0:Int)<=(j:Int):=by omega
   have hdj:(M.map (Ent.h r.g))[j]?=some (d.h r.g):=by rw[List.getElem?_map,hd];rfl
   have hyo:(d.h r.g).ok:=hok _ (List.mem_of_getElem? hdj)
   have HK2:Hid (LeftH r.g M d.up q2/\-1<=d.up/\(d.h r.g :: z).length=m+1/\q2 ++ (d.h r.g :: z)=tot):=h_ ⟨l1,l3,by simp[hlm],by rw[<-htot,l2];simp⟩
   have HM:Hid ((intOf (.int .i64 d.up)+1).toNat<(intOf (.int .i64 (j:Int))+1).toNat):=h_ (by simp[intOf];omega)
   have HU:Hid ((M.map Ent.up)[j]?=some d.up):=h_ (by rw[List.getElem?_map,hd];rfl)
   have hm9:m<=900:=by
    have h1:=HL.out
    rw[<-htot] at h1
    simp at h1;omega
   have HM9:=h_ (And.intro hm9 (And.intro hlm hnil))
   have c83:=HD.out _ hB
   obtain ⟨g2,c2,e2,rh⟩:=hds_at (HH.out _ hB) hok hdj
   obtain rfl:gH=g2:=by cases e2;rfl
   clear e2 hk1 hlm htot l1 l2 l3 l4 hd hm9 hdj hnil hmc
   generalize d.up=u at *
   generalize d.h r.g=y at *
   have zh:=qh_ hyo
   have za:=qs_ hyo
   have hbW:Below wr.heap.size wr (wr.alloc (.cells (hdA y) 30)):=(Below.refl _ _).alloc (Nat.le_refl _) _
   have hgW:Has (wr.alloc (.cells (hdA y) 30)) wr.heap.size (hdA y) 30:=Has.new _ _
   have hHW:=hHA.below hbW
   have hbg:wr.heap.size<=(wr.alloc (.cells (hdA y) 30)).heap.size:=hbW.size
   go_upto_region 4 with (first
    | (with_reducible refine qaa_ rfl _ rfl gH (j*68) rfl y rh zh ?_)
    | (with_reducible refine qiv_ rfl _ rfl (hdA y) rfl za ?_)
    | ((with_reducible refine qjb_ rfl _ _ rfl rfl wr.heap.size wr.heap.size y hyo rfl hgW (Nat.le_refl _) hbg ad m cc z rfl HM9.out.2.1 HM9.out.2.2 hHW HM9.out.1 ?_);intro ad' c' w2 hH' hne hg' hmc'))
   have hb2:Below wr.heap.size wr w2:=(hbW).grown hg' hbW.size (fun q hq=>by have:wr.heap.size=q:=Option.some.inj hq;omega)
   have hB2:=tb_ hB hb2
   have c1:=HC.out _ hB2
   obtain ⟨g3,c3,e3,hr⟩:=qer_ (HI.out _ hB2) HU.out
   obtain rfl:g=g3:=by cases e3;rfl
   clear e3 hbW hgW hHW hbg hg' rh c83 hHA hb2
   have HNE:=h_ (And.intro hne hmc')
   clear hne hmc'
   go_wp2_with fail
   go_roundw
   case rel=>exact ⟨ad',m+1,c',u,y :: z,q2,rfl,rfl,h_ ⟨HK2.out.1,HK2.out.2.1,HK2.out.2.2.1,HK2.out.2.2.2,fun e=>absurd e HNE.out.1,HNE.out.2⟩,hH',hB2⟩
   case measure=>exact HM.out
theorem qyu_ {w:World} {B:Nat} {F:Nat->Prop} {b:Nat} {r:Ru} {M:List Ent} (h:RfS w B F b r M) (hM:Ok r M) (hl:M.length<=900) (i:Nat) (e:Ent) (he:M[i]?=some e) :
  Calls Tryz.prog 46 #[.pointer (some ⟨b,0,none⟩),.int .i64 (i:Int)] w fun r' w'=>∃ ad c,r' = .returned (.slice ad (e.hs.length+1) c)/\HeadersAt w' ad (r.g :: e.hs)/\e.hs.length+1<=c/\Below w.heap.size w w':=by
 obtain ⟨_,_,_,p,t,vH,vI,vA,vW,ws,h3,_⟩:=h
 have hA:=h3.has
 have hI:=h3.rowA
 have hH:=h3.rowH
 have hp:=h3.pok
 have hg:=h3.good
 clear h3
 rw[List.length_map] at hI
 exact qafo_ p hp vH vI vA vW r.room b r M hM hg hl i e he M.length rfl w hA hH hI
end Go.Proofs.YtcppnfkjklhhdaaGreatDoor.An
namespace Go.Proofs.YtcppnfkjklhhdaaGreatDoor.An
open Go.RowKit Mem Sc NN.Rg2
theorem qyv_ (b:Nat) (h:Hd) (ho:h.ok) (now:Int) (w:World) (KG:HK_ w 33 #[.agg (hdA h)] (.bool false)) :
  Calls Tryz.prog 28 #[.pointer (some ⟨b,0,none⟩),.agg (hdA h),.int .i64 now] w fun r w'=>r = .returned (.tuple #[.int .i64 (-1),.int .i64 (1),.int .i64 (8)])/\Below w.heap.size w w':=by
 have za:=qs_ ho
 go_enter Tryz.func28,Tryz.ntmps28
 go_upto_region 1 with fail
 generalize hw0:World.alloc _ _=v0
 have hB:Below w.heap.size w v0:=bl_ hw0
 have hH:HdAt v0 w.heap.size h:=by rw[<-hw0];exact Has.new _ _
 clear hw0
 obtain ⟨bH,hbH⟩:∃ x,x=w.heap.size:=⟨_,rfl⟩
 have HBH:=h_ hbH
 rw[<-hbH] at hH |-
 clear hbH
 go_wp2_with (first|fail|(with_reducible refine qak_ rfl _ rfl _ rfl hH za ?_))
 refine (KG.out _ hB).mono ?_
 rintro e v1 ⟨rfl,hb⟩
 replace hH:=hH.on hb
 replace hB:=tb_ hB hb
 clear hb
 go_wp2_with fail
 go_ret3
 exact ⟨rfl,hB⟩
theorem qqm_ (b:Nat) (h:Hd) (ho:h.ok) (now:Int) (w:World) (KG:HK_ w 33 #[.agg (hdA h)] (.bool true)) (id:List UInt8) (KI:HK_ w 13 #[.agg (hdA h)] (.agg (bytesV id))) (j:Nat) (KF:HK_ w 20 #[.pointer (some ⟨b,0,none⟩),.agg (bytesV id)] (.int .i64 (j:Int))) :
  Calls Tryz.prog 28 #[.pointer (some ⟨b,0,none⟩),.agg (hdA h),.int .i64 now] w fun r w'=>r = .returned (.tuple #[.int .i64 ((j:Int)),.int .i64 (0),.int .i64 (0)])/\Below w.heap.size w w':=by
 have hj0:(0:Int)<=(j:Int):=by omega
 have za:=qs_ ho
 go_enter Tryz.func28,Tryz.ntmps28
 go_upto_region 1 with fail
 generalize hw0:World.alloc _ _=v0
 have hB:Below w.heap.size w v0:=bl_ hw0
 have hH:HdAt v0 w.heap.size h:=by rw[<-hw0];exact Has.new _ _
 clear hw0
 obtain ⟨bH,hbH⟩:∃ x,x=w.heap.size:=⟨_,rfl⟩
 have HBH:=h_ hbH
 rw[<-hbH] at hH |-
 clear hbH
 go_wp2_with (first|fail|(with_reducible refine qak_ rfl _ rfl _ rfl hH za ?_))
 refine (KG.out _ hB).mono ?_
 rintro e v1 ⟨rfl,hb⟩
 replace hH:=hH.on hb
 replace hB:=tb_ hB hb
 clear hb
 go_wp2_with (first|fail|(with_reducible refine qak_ rfl _ rfl _ rfl hH za ?_))
 refine (KI.out _ hB).mono ?_
 rintro e v2 ⟨rfl,hb⟩
 replace hH:=hH.on hb
 replace hB:=tb_ hB hb
 clear hb
 go_wp2_with (first|fail|(with_reducible refine qak_ rfl _ rfl _ rfl hH za ?_))
 refine (KF.out _ hB).mono ?_
 rintro e v3 ⟨rfl,hb⟩
 replace hH:=hH.on hb
 replace hB:=tb_ hB hb
 clear hb
 go_wp2_with fail
 go_ret3
 exact ⟨rfl,hB⟩
theorem qup_ (b:Nat) (h:Hd) (ho:h.ok) (now:Int) (w:World) (KG:HK_ w 33 #[.agg (hdA h)] (.bool true)) (id:List UInt8) (KI:HK_ w 13 #[.agg (hdA h)] (.agg (bytesV id))) (KF:HK_ w 20 #[.pointer (some ⟨b,0,none⟩),.agg (bytesV id)] (.int .i64 (-1))) (KP:HK_ w 20 #[.pointer (some ⟨b,0,none⟩),.agg (bytesV h.prev)] (.int .i64 (-1))) :
  Calls Tryz.prog 28 #[.pointer (some ⟨b,0,none⟩),.agg (hdA h),.int .i64 now] w fun r w'=>r = .returned (.tuple #[.int .i64 (-1),.int .i64 (2),.int .i64 (5)])/\Below w.heap.size w w':=by
 have za:=qs_ ho
 go_enter Tryz.func28,Tryz.ntmps28
 go_upto_region 1 with fail
 generalize hw0:World.alloc _ _=v0
 have hB:Below w.heap.size w v0:=bl_ hw0
 have hH:HdAt v0 w.heap.size h:=by rw[<-hw0];exact Has.new _ _
 clear hw0
 obtain ⟨bH,hbH⟩:∃ x,x=w.heap.size:=⟨_,rfl⟩
 have HBH:=h_ hbH
 rw[<-hbH] at hH |-
 clear hbH
 go_wp2_with (first|fail|(with_reducible refine qak_ rfl _ rfl _ rfl hH za ?_))
 refine (KG.out _ hB).mono ?_
 rintro e v1 ⟨rfl,hb⟩
 replace hH:=hH.on hb
 replace hB:=tb_ hB hb
 clear hb
 go_wp2_with (first|fail|(with_reducible refine qak_ rfl _ rfl _ rfl hH za ?_))
 refine (KI.out _ hB).mono ?_
 rintro e v2 ⟨rfl,hb⟩
 replace hH:=hH.on hb
 replace hB:=tb_ hB hb
 clear hb
 go_wp2_with (first|fail|(with_reducible refine qak_ rfl _ rfl _ rfl hH za ?_))
 refine (KF.out _ hB).mono ?_
 rintro e v3 ⟨rfl,hb⟩
 replace hH:=hH.on hb
 replace hB:=tb_ hB hb
 clear hb
 have rP:v3.rangeAt bH 1 (Lib.byteCells h.prev):=qen_ (HdAt.range hH)
 have sP:(Lib.byteCells h.prev).length=32:=by rw[Lib.byteCells_length,ho.1]
 go_wp2_with (first|fail|(with_reducible refine qq_ rfl _ rfl bH 1 rfl h.prev rP sP ?_))
 refine (KP.out _ hB).mono ?_
 rintro e v4 ⟨rfl,hb⟩
 replace hH:=hH.on hb
 replace hB:=tb_ hB hb
 clear hb
 go_wp2_with fail
 go_ret3
 exact ⟨rfl,hB⟩
end Go.Proofs.YtcppnfkjklhhdaaGreatDoor.An
namespace Go.Proofs.YtcppnfkjklhhdaaGreatDoor.An
open Go.RowKit Mem Sc NN.Rg2
open Ar (Ent Ru entZ Ok)
section
variable {w:World} {b:Nat} {p:NN.Pr} {vH vI vA vW:Value} {room:Nat}
theorem rf_end (hp:p.ok) (j:Nat):(rfA p vH vI vA vW room)[83+j]?=([vH,vI,vA,vW,.int .i64 (room:Int)]:List Value)[j]?:=by
 unfold rfA rfC
 rw[List.getElem?_toArray,List.getElem?_append_right (by rw[qt_ hp];omega),qt_ hp,show 83+j - 83=j by omega]
theorem rf86 (h:Has w b (rfA p vH vI vA vW room) 45) (hp:p.ok):w.cell? ⟨b,86,none⟩=some vW:=(Has.cell h 86).trans (rf_end hp 3)
theorem rf87 (h:Has w b (rfA p vH vI vA vW room) 45) (hp:p.ok):w.cell? ⟨b,87,none⟩=some (.int .i64 (room:Int)):=(Has.cell h 87).trans (rf_end hp 4)
theorem rf_pr (h:Has w b (rfA p vH vI vA vW room) 45):w.rangeAt b 0 (NN.prC p):=by
 have:=qbh_ (A:=[]) (cs:=NN.prC p) (C:=[vH,vI,vA,vW,.int .i64 (room:Int)]) (o:=0) (w:=w) (b:=b) (t:=45) h rfl
 exact this
theorem rf_set (h:Has w b (rfA p vH vI vA vW room) 45) (hp:p.ok) (v':Value) (k:Nat) {cs:List Value} (hk:([vH,vI,vA,vW,.int .i64 (room:Int)]:List Value).set k v'=cs):Has (w.setCell ⟨b,83+k,none⟩ v') b (NN.prC p ++ cs).toArray 45:=by
 have:=Has.set (i:=83+k) h v'
 have e:(rfA p vH vI vA vW room).setIfInBounds (83+k) v'=(NN.prC p ++ cs).toArray:=by
  unfold rfA rfC
  rw[List.setIfInBounds_toArray,List.set_append_right _ _ (by rw[qt_ hp];omega),qt_ hp,show 83+k - 83=k by omega,hk]
 rwa [e] at this
theorem rfield0 (w:World) (g:Nat):(Instr.fieldAt 45 (.pointer (some ⟨g,0,none⟩)) 0).run Tryz.prog w = .ok (.pointer (some ⟨g,0,none⟩)) w:=by kernel_rfl
theorem rfield1 (w:World) (g:Nat):(Instr.fieldAt 45 (.pointer (some ⟨g,0,none⟩)) 1).run Tryz.prog w = .ok (.pointer (some ⟨g,83,none⟩)) w:=by kernel_rfl
theorem rfield2 (w:World) (g:Nat):(Instr.fieldAt 45 (.pointer (some ⟨g,0,none⟩)) 2).run Tryz.prog w = .ok (.pointer (some ⟨g,84,none⟩)) w:=by kernel_rfl
theorem rfield4 (w:World) (g:Nat):(Instr.fieldAt 45 (.pointer (some ⟨g,0,none⟩)) 4).run Tryz.prog w = .ok (.pointer (some ⟨g,86,none⟩)) w:=by kernel_rfl
theorem quq_ (w:World) (g j n c:Nat) (hj:j<n):(Instr.indexAt 43 (.slice (some ⟨g,0,none⟩) n c) (.int .i64 (j:Int))).run Tryz.prog w = .ok (.pointer (some ⟨g,j*4,none⟩)) w:=by
 go_simp
end
section
variable {ρ:Operand->Value} {o:Oper} {w w':World}
theorem qct_ {T:TypeId} {x:Operand} {p:Addr} {u:Value} (ho:o.op = .load T x) (hx:ρ x = .pointer (some p)) (hl:(loadVar T p).run Tryz.prog w = .ok u w):(execOp ρ o).run Tryz.prog w = .ok (.value u) w:=by
 unfold execOp
 simp only[ho,hx,Instr.loadAt,Instr.sureAddr,Sem.run_bind,Sem.run_pure,Result.andThen_ok,hl]
theorem qcd_ {T:TypeId} {x y:Operand} {p:Addr} {u:Value} (ho:o.op = .store T x y) (hx:ρ x = .pointer (some p)) (hy:ρ y=u) (hl:(storeVar T p u).run Tryz.prog w = .ok () w'):(execOp ρ o).run Tryz.prog w = .ok .skip w':=by
 unfold execOp
 simp only[ho,hx,hy,Instr.storeAt,Instr.sureAddr,Sem.run_bind,Sem.run_pure,Result.andThen_ok,hl]
theorem ld_hds {p:Addr} {a:Option Addr} {n c:Nat} (h:w.cell? p=some (.slice a n c)):(loadVar 41 p).run Tryz.prog w = .ok (.slice a n c) w:=by
 go_simp
theorem ld_ids {p:Addr} {a:Option Addr} {n c:Nat} (h:w.cell? p=some (.slice a n c)):(loadVar 34 p).run Tryz.prog w = .ok (.slice a n c) w:=by
 go_simp
theorem qaax_ {p:Addr} {a:Option Addr} {n c:Nat} (h:w.cell? p=some (.slice a n c)):(loadVar 43 p).run Tryz.prog w = .ok (.slice a n c) w:=by
 go_simp
theorem st_hds {p:Addr} {a:Option Addr} {n c:Nat} {u:Value} (hf:w.frozen? p=false) (hc:w.cell? p=some u):(storeVar 41 p (.slice a n c)).run Tryz.prog w = .ok () (w.setCell p (.slice a n c)):=by
 go_simp
theorem st_ids {p:Addr} {a:Option Addr} {n c:Nat} {u:Value} (hf:w.frozen? p=false) (hc:w.cell? p=some u):(storeVar 34 p (.slice a n c)).run Tryz.prog w = .ok () (w.setCell p (.slice a n c)):=by
 go_simp
theorem st_nums {p:Addr} {a:Option Addr} {n c:Nat} {u:Value} (hf:w.frozen? p=false) (hc:w.cell? p=some u):(storeVar 43 p (.slice a n c)).run Tryz.prog w = .ok () (w.setCell p (.slice a n c)):=by
 go_simp
theorem qcm_ {Ts T:TypeId} {size bytes:Nat} (hu:Tryz.prog.underlying Ts=some (.slice T)) (hinf:∃ i z,Tryz.prog.info? T=some i/\i.zero=some z/\i.size=size/\i.bytes=bytes/\z.cells.size=size) (h4:1001*bytes<=140737488355328) (h5:0<size)
  {x y:Operand} {v:Value} {n g:Nat} {xs:List Value} {cs:Array Value} (hcs:cs.size=size) (hone:∀ u ∈ cs.toList,u.oneCell'=true) (hx:ρ x=v) (hown:w.ownsRow 0 T size v n xs) (hy:ρ y = .slice (some ⟨g,0,none⟩) 1 1) (hg:Has w g cs T) (hn:n<=1000) :
  ∃ v' w',(∀o:Oper,o.op = .call { callee:=.builtin .append,args:=#[x,y],argTypes:=#[Ts,Ts] }->o.type=Ts->(execOp ρ o).run Tryz.prog w = .ok (.value v') w')/\w'.ownsRow 0 T size v' (n+1) (xs ++ cs.toList)/\w.grownBy w' v.ownBlock/\(v'.ownBlock=v.ownBlock\/v'.ownBlock=some w.heap.size):=by
 obtain ⟨i,z,hi,hz,h1,h2,h3⟩:=hinf
 obtain ⟨v',w',hr,g1,g2,_,g4⟩:=run_append_own_at (P:=Tryz.prog) w 0 Ts Ts T i z size bytes hu hi hz h1 h2 h3 h5 v n xs hown ⟨g,0,none⟩ 1 1 cs.toList (by simp[hcs]) (fun j u hj=>by
  rw[Addr.add_lit,Nat.zero_add,hg.cell j,<-Array.getElem?_toList]
  exact hj) hone (by unfold maxLen;omega) (Nat.le_trans (Nat.mul_le_mul_right _ (by omega)) h4) (Nat.zero_le _)
 refine ⟨v',w',fun o ho hty=>?_,g1,g2,g4⟩
 unfold execOp
 simp only[ho,hty,resolve,invoke,builtin,Sem.run_bind,Sem.run_pure,Result.andThen_ok,List.map_toArray,List.map_cons,List.map_nil,hx,hy,hr]
end
theorem qbw_ {w:World} {base:Nat} {T:TypeId} {size:Nat} {v:Value} {n:Nat} {xs:List Value} (h:w.ownsRow base T size v n xs) (hn:0<n):∃ g c,v = .slice (some ⟨g,0,none⟩) n c:=by
 rcases h.2 with ⟨_,h0⟩|⟨g,c,cur,rfl,_⟩
 ·omega
 ·exact ⟨g,c,rfl⟩
structure ApI (kb ka ks sb sa B:Nat) (T TA:TypeId) (size:Nat) (E:Array Value->Prop) (v:Value) (n:Nat) (xs:List Value) (b:Nat) (A:Value->Array Value) (l:Array Bool) (a:Act) (w:World):Prop where
 bu:l.getD kb false=true->l.getD ka false=false->∃ g cs,E cs/\a.eval (.tmp sb) = .slice (some ⟨g,0,none⟩) 1 1/\Has w g cs T
 ro:l.getD ka false=false->w.ownsRow 0 T size v n xs
 ap:l.getD ka false=true->l.getD ks false=false->∃ v' cs,E cs/\a.eval (.tmp sa)=v'/\w.ownsRow 0 T size v' (n+1) (xs ++ cs.toList)/\(v'.ownBlock=v.ownBlock\/∃ g,v'.ownBlock=some g/\B<=g)
 ha:l.getD ks false=false->Has w b (A v) TA
 st:l.getD ks false=true->∃ v' cs,E cs/\Has w b (A v') TA/\w.ownsRow 0 T size v' (n+1) (xs ++ cs.toList)/\(v'.ownBlock=v.ownBlock\/∃ g,v'.ownBlock=some g/\B<=g)
section
variable {kb ka ks sb sa B:Nat} {T TA:TypeId} {size:Nat} {E:Array Value->Prop} {v:Value} {n:Nat} {xs:List Value} {b:Nat} {A:Value->Array Value} {l:Array Bool} {a:Act} {w w':World}
theorem ApI.zero (hl:∀ i,l.getD i false=false) (hr:w.ownsRow 0 T size v n xs) (hA:Has w b (A v) TA):ApI kb ka ks sb sa B T TA size E v n xs b A l a w :=
 ⟨fun h=>(by rw[hl] at h;cases h),fun _=>hr,fun h=>(by rw[hl] at h;cases h),fun _=>hA,fun h=>(by rw[hl] at h;cases h)⟩
theorem ApI.keep (h:ApI kb ka ks sb sa B T TA size E v n xs b A l a w) {i:Nat} (hi:i<l.size) (h1:i ≠ kb) (h2:i ≠ ka) (h3:i ≠ ks) (d:Option Tmp) (u:Value) (hd:d ≠ some sb) (hd2:d ≠ some sa):ApI kb ka ks sb sa B T TA size E v n xs b A (l.setIfInBounds i true) (a.put d u) w:=by
 obtain ⟨p1,p2,p3,p4,p5⟩:=h
 constructor <;> simp only[qn_ l i kb hi h1,qn_ l i ka hi h2,qn_ l i ks hi h3,Act.eval_put (a:=a) (v:=u) (fun d' hdd e=>hd (by rw[hdd];cases e;rfl):∀ d',d=some d'->(Operand.tmp sb) = .tmp d'->False),Act.eval_put (a:=a) (v:=u) (fun d' hdd e=>hd2 (by rw[hdd];cases e;rfl):∀ d',d=some d'->(Operand.tmp sa) = .tmp d'->False)] <;> assumption
theorem ApI.on (h:ApI kb ka ks sb sa B T TA size E v n xs b A l a w) (hb:Below w.heap.size w w'):ApI kb ka ks sb sa B T TA size E v n xs b A l a w':=by
 have k:=Kp.of (F:=fun _=>False) hb
 refine ⟨fun h1 h2=>?_,fun h1=>kp_row (h.ro h1) k (fun _ _ h=>h),fun h1 h2=>?_,fun h1=>k.has (h.ha h1) (fun h=>h),fun h1=>?_⟩
 ·obtain ⟨g,cs,e1,e2,e3⟩:=h.bu h1 h2
  exact ⟨g,cs,e1,e2,k.has e3 (fun h=>h)⟩
 ·obtain ⟨v',cs,e1,e2,e3,e4⟩:=h.ap h1 h2
  exact ⟨v',cs,e1,e2,kp_row e3 k (fun _ _ h=>h),e4⟩
 ·obtain ⟨v',cs,e1,e2,e3,e4⟩:=h.st h1
  exact ⟨v',cs,e1,k.has e2 (fun h=>h),kp_row e3 k (fun _ _ h=>h),e4⟩
theorem ApI.built (h:ApI kb ka ks sb sa B T TA size E v n xs b A l a w) (hi:kb<l.size) (ka0:(l.setIfInBounds kb true).getD ka false=false) (ks0:(l.setIfInBounds kb true).getD ks false=false) (h1:kb ≠ ka) (h2:kb ≠ ks) (hs:sb<a.tmps.size) {cs:Array Value} (hE:E cs) :
  ApI kb ka ks sb sa B T TA size E v n xs b A (l.setIfInBounds kb true) (a.put (some sb) (.slice (some ⟨w.heap.size,0,none⟩) 1 1)) (w.alloc (.cells cs T)):=by
 have hb:Below w.heap.size w (w.alloc (.cells cs T)):=(Below.refl _ _).alloc (Nat.le_refl _) _
 have k:=Kp.of (F:=fun _=>False) hb
 exact ⟨fun _ _=>⟨_,cs,hE,qbs_ a sb _ hs,Has.new _ _⟩,fun _=>kp_row (h.ro (by rw[<-qn_ l kb ka hi h1];exact ka0)) k (fun _ _ h=>h),fun h=>(by rw[ka0] at h;cases h),fun _=>k.has (h.ha (by rw[<-qn_ l kb ks hi h2];exact ks0)) (fun h=>h),fun h=>(by rw[ks0] at h;cases h)⟩
theorem ApI.appended (h:ApI kb ka ks sb sa B T TA size E v n xs b A l a w) (hi:ka<l.size) (ks0:(l.setIfInBounds ka true).getD ks false=false) (h2:ka ≠ ks) (hs:sa<a.tmps.size) {cs:Array Value} (hE:E cs) {v':Value} (g1:w'.ownsRow 0 T size v' (n+1) (xs ++ cs.toList)) (g2:w.grownBy w' v.ownBlock) (g3:v'.ownBlock=v.ownBlock\/v'.ownBlock=some w.heap.size) (hB:B<=w.heap.size) (hb:v.ownBlock ≠ some b) :
  ApI kb ka ks sb sa B T TA size E v n xs b A (l.setIfInBounds ka true) (a.put (some sa) v') w':=by
 have ea:(l.setIfInBounds ka true).getD ka false=true:=by rw[qab_ _ _ _ hi,if_pos rfl]
 have hA:=h.ha (by rw[<-qn_ l ka ks hi h2];exact ks0)
 exact ⟨fun _ h=>(by rw[ea] at h;cases h),fun h=>(by rw[ea] at h;cases h),fun _ _=>⟨v',cs,hE,qbs_ a sa _ hs,g1,g3.elim .inl (fun g=>.inr ⟨_,g,hB⟩)⟩,fun _=>(g2.block b (Has.lt hA) (fun e=>hb e.symm)).trans hA,fun h=>(by rw[ks0] at h;cases h)⟩
theorem ApI.stored (hi:ks<l.size) (h2:ks ≠ ka) (hka:l.getD ka false=true) {cs:Array Value} (hE:E cs) {v':Value} (hA:Has w' b (A v') TA) (g1:w'.ownsRow 0 T size v' (n+1) (xs ++ cs.toList)) (g3:v'.ownBlock=v.ownBlock\/∃ g,v'.ownBlock=some g/\B<=g) :
  ApI kb ka ks sb sa B T TA size E v n xs b A (l.setIfInBounds ks true) (a.put none undef) w':=by
 have ea:(l.setIfInBounds ks true).getD ka false=true:=by rw[qn_ l ks ka hi h2];exact hka
 have es:(l.setIfInBounds ks true).getD ks false=true:=by rw[qab_ _ _ _ hi,if_pos rfl]
 exact ⟨fun _ h=>(by rw[ea] at h;cases h),fun h=>(by rw[ea] at h;cases h),fun _ h=>(by rw[es] at h;cases h),fun h=>(by rw[es] at h;cases h),fun _=>⟨v',cs,hE,hA,g1,g3⟩⟩
end
end Go.Proofs.YtcppnfkjklhhdaaGreatDoor.An
namespace Go.Proofs.YtcppnfkjklhhdaaGreatDoor.An
open Go.RowKit Mem Sc NN.Rg2
open Ar (Ent Ru entZ Ok)
def CkR (b j:Nat) (p:NN.Pr) (h:Hd) (now y:Int) (m:Nat) (ch:List Hd):Nat->Value->World->Prop
 | 0,u,_=>u = .pointer (some ⟨b,0,none⟩)
 | 1,u,_=>u = .pointer (some ⟨b,0,none⟩)
 | 2,u,_=>u = .pointer (some ⟨b,0,none⟩)
 | 3,u,_=>u = .agg (NN.prA p)
 | 4,u,_=>u = .pointer (some ⟨b,0,none⟩)
 | 5,u,_=>u = .int .i64 (j:Int)
 | 6,u,w=>∃ ad c,u = .slice ad m c/\HeadersAt w ad ch
 | 7,u,_=>u = .agg (hdA h)
 | 8,u,_=>u = .int .i64 now
 | 9,u,_=>u = .int .i64 y
 | 10,u,_=>u = .int .i64 y
 | _,_,_=>b=b
theorem qyw_ {b j:Nat} {p:NN.Pr} {h:Hd} {now y:Int} {m:Nat} {ch:List Hd}:∀ (i:Nat) (u:Value) (w w':World),Below w.heap.size w w'->CkR b j p h now y m ch i u w->CkR b j p h now y m ch i u w'
 | 0,_,_,_,_,h|1,_,_,_,_,h|2,_,_,_,_,h|3,_,_,_,_,h|4,_,_,_,_,h|5,_,_,_,_,h|7,_,_,_,_,h|8,_,_,_,_,h|9,_,_,_,_,h|10,_,_,_,_,h=>h
 | 6,_,_,_,hb,⟨ad,c,h1,h2⟩=>⟨ad,c,h1,h2.below hb⟩
 | _+11,_,_,_,_,_=>rfl
structure Nes (b gH gI gA gW bH:Nat):Prop where
 nH:b ≠ gH
 nI:b ≠ gI
 nA:b ≠ gA
 nW:b ≠ gW
 HI:gH ≠ gI
 HA:gH ≠ gA
 HW:gH ≠ gW
 IA:gI ≠ gA
 IW:gI ≠ gW
 AW:gA ≠ gW
 bb:bH ≠ b
 bh:bH ≠ gH
 bi:bH ≠ gI
 ba:bH ≠ gA
 bw:bH ≠ gW
def HgR (b:Nat) (v:Value) (h:Hd):Nat->Value->Prop
 | 0,u|1,u|2,u|8,u=>u = .pointer (some ⟨b,0,none⟩)
 | 3,u|9,u=>u = .pointer (some ⟨b,83,none⟩)
 | 4,u=>u=v
 | 5,u=>u = .agg (hdA h)
 | _,_=>b=b
def IgR (b:Nat) (v:Value) (h:Hd) (id:List UInt8):Nat->Value->Prop
 | 0,u|1,u|2,u|9,u=>u = .pointer (some ⟨b,0,none⟩)
 | 3,u|10,u=>u = .pointer (some ⟨b,84,none⟩)
 | 4,u=>u=v
 | 5,u=>u = .agg (hdA h)
 | 6,u=>u = .agg (bytesV id)
 | _,_=>b=b
def WgR (b bH gW j z:Nat) (v:Value) (bits:Int):Nat->Value->Prop
 | 0,u|1,u|2,u|5,u|6,u|18,u=>u = .pointer (some ⟨b,0,none⟩)
 | 3,u|7,u|19,u=>u = .pointer (some ⟨b,86,none⟩)
 | 4,u|8,u=>u=v
 | 9,u=>u = .int .i64 (j:Int)
 | 10,u=>u = .pointer (some ⟨gW,j*4,none⟩)
 | 11,u=>u = .agg (NN.numC z)
 | 12,u=>u = .pointer (some ⟨bH,66,none⟩)
 | 13,u=>u = .int .i64 bits
 | 14,u|15,u=>NumV u
 | _,_=>b=b
theorem qur_ {w:World} {ops:Array Oper} {rest:List Oper} {o:Oper} {a:Act} {Q:Exit->Act->World->Prop} (hgd:o.guard=none) (x y:Operand) (ho:o.op = .store 42 x y) (q:Addr) (ad:Option Addr) (n c:Nat) (u:Value) (hx:a.eval x = .pointer (some q)) (hy:a.eval y = .slice ad n c) (hf:w.frozen? q=false) (hc:w.cell? q=some u)
  (hk:wpList Tryz.prog ops Q rest (a.put o.dst undef) (w.setCell q (.slice ad n c))):wpList Tryz.prog ops Q (o :: rest) a w :=
 wpList_plain hgd fun _ hK=>by
  unfold Oper.wp
  rw[qcd_ ho hx hy (qhh_ hf hc)]
  exact hK _ _ hk
set_option maxHeartbeats 8000000 in
theorem qus_ (b:Nat) (p:NN.Pr) (hp:p.ok) (room n gH cH gI cI gA cA gW cW:Nat) (xH xI xW:List Value) (lA:List Int) (h:Hd) (ho:h.ok) (now:Int) (w:World)
  (hA:Has w b (rfA p (.slice (some ⟨gH,0,none⟩) n cH) (.slice (some ⟨gI,0,none⟩) n cI) (.slice (some ⟨gA,0,none⟩) n cA) (.slice (some ⟨gW,0,none⟩) n cW) room) 45)
  (rH:w.ownsRow 0 30 68 (.slice (some ⟨gH,0,none⟩) n cH) n xH) (rI:w.ownsRow 0 28 32 (.slice (some ⟨gI,0,none⟩) n cI) n xI) (rA:w.ownsRow 0 3 1 (.slice (some ⟨gA,0,none⟩) n cA) n (lA.map (Value.int .i64))) (rW:w.ownsRow 0 26 4 (.slice (some ⟨gW,0,none⟩) n cW) n xW)
  (hn9:n<=900) (j:Nat) (hj:j<n) (z:Nat) (hz:z<NN.Nm.big) (HWj:Hid (∀w':World,w'.ownsRow 0 26 4 (.slice (some ⟨gW,0,none⟩) n cW) n xW->w'.rangeAt gW (j*4) (NN.numC z).toList))
  (KG:HK_ w 33 #[.agg (hdA h)] (.bool true)) (id:List UInt8) (i32:id.length=32) (KI:HG_ 13 #[.agg (hdA h)] (.agg (bytesV id)))
  (KF:HK_ w 20 #[.pointer (some ⟨b,0,none⟩),.agg (bytesV id)] (.int .i64 (-1)))
  (KP:HK_ w 20 #[.pointer (some ⟨b,0,none⟩),.agg (bytesV h.prev)] (.int .i64 (j:Int)))
  (m:Nat) (ch:List Hd) (KC:Hid (∀w',Below w.heap.size w w'->Calls Tryz.prog 46 #[.pointer (some ⟨b,0,none⟩),.int .i64 (j:Int)] w' fun e w''=>∃ v,e = .returned v/\(∃ad c,v = .slice ad m c/\HeadersAt w'' ad ch)/\Below w'.heap.size w' w''))
  (y:Int) (KK:Hid (∀w' ad c,Below w.heap.size w w'->HeadersAt w' ad ch->Calls Tryz.prog 45 #[.agg (NN.prA p),.slice ad m c,.agg (hdA h),.int .i64 now] w' fun e w''=>e = .returned (.int .i64 y)/\Below w'.heap.size w' w''))
  (KO:Hid (NN.NumW 42 #[.int .i64 h.bits])) (KS:Hid (∀x,x<NN.Nm.big->NN.NumW 47 #[.agg (NN.numC z),.agg (NN.numC x)]))
  (gy gf:Bool) (t9:decide ((0:Int)<y)=gy) (tf:decide (room<=n)=gf) (Q:Ending->World->Prop)
  (HQ1:Hid (gy=true->∀ w',Below w.heap.size w w'->Q (.returned (.tuple #[.int .i64 (-1),.int .i64 y,.int .i64 8])) w'))
  (HQ2:Hid (gy=false->gf=true->∀ w',Below w.heap.size w w'->Q (.returned (.tuple #[.int .i64 (-1),.int .i64 0,.int .i64 6])) w'))
  (HQ3:Hid (gy=false->gf=false->∀ w' vH vI vA vW z',z'<NN.Nm.big->Has w' b (rfA p vH vI vA vW room) 45->w'.ownsRow 0 30 68 vH (n+1) (xH ++ hdC h)->w'.ownsRow 0 28 32 vI (n+1) (xI ++ Lib.byteCells id)->w'.ownsRow 0 3 1 vA (n+1) ((lA ++ [(j:Int)]).map (Value.int .i64))->w'.ownsRow 0 26 4 vW (n+1) (xW ++ (NN.numC z').toList)->(∀k,vH.ownBlock=some k->k=gH\/w.heap.size<=k)->(∀k,vI.ownBlock=some k->k=gI\/w.heap.size<=k)->(∀k,vA.ownBlock=some k->k=gA\/w.heap.size<=k)->(∀k,vW.ownBlock=some k->k=gW\/w.heap.size<=k)->Kp (fun i=>i=b\/i=gH\/i=gI\/i=gA\/i=gW) w w'->Q (.returned (.tuple #[.int .i64 (n:Int),.int .i64 0,.int .i64 0])) w')) :
  Calls Tryz.prog 28 #[.pointer (some ⟨b,0,none⟩),.agg (hdA h),.int .i64 now] w Q:=by
 have hj0:¬(j:Int)<0:=by omega
 have hj1:j<n:=hj
 have HJ:=h_ hj
 have HZ:=h_ hz
 have HR:=h_ (And.intro hA (And.intro rH (And.intro rI (And.intro rA rW))))
 have HTF:=h_ tf
 have zI:(bytesV id).size=32:=by rw[qp_];exact i32
 clear hj hz hA rH rI rA rW tf
 have za:=qs_ ho
 go_enter Tryz.func28,Tryz.ntmps28
 go_upto_region 1 with fail
 generalize hw0:World.alloc _ _=v0
 have hB:Below w.heap.size w v0:=bl_ hw0
 have hH:HdAt v0 w.heap.size h:=by rw[<-hw0];exact Has.new _ _
 clear hw0
 obtain ⟨bH,hbH⟩:∃ x,x=w.heap.size:=⟨_,rfl⟩
 have HBH:=h_ hbH
 rw[<-hbH] at hH |-
 clear hbH
 go_wp2_with (first|fail|(with_reducible refine qak_ rfl _ rfl _ rfl hH za ?_))
 refine (KG.out _ hB).mono ?_
 rintro e v1 ⟨rfl,hb⟩
 replace hH:=hH.on hb
 replace hB:=tb_ hB hb
 clear hb
 go_wp2_with (first|fail|(with_reducible refine qak_ rfl _ rfl _ rfl hH za ?_))
 refine (KI.out _).mono ?_
 rintro e v2 ⟨rfl,hb⟩
 replace hH:=hH.on hb
 replace hB:=tb_ hB hb
 clear hb
 go_wp2_with (first|fail|(with_reducible refine qak_ rfl _ rfl _ rfl hH za ?_))
 refine (KF.out _ hB).mono ?_
 rintro e v3 ⟨rfl,hb⟩
 replace hH:=hH.on hb
 replace hB:=tb_ hB hb
 clear hb
 have rP:v3.rangeAt bH 1 (Lib.byteCells h.prev):=qen_ (HdAt.range hH)
 have sP:(Lib.byteCells h.prev).length=32:=by rw[Lib.byteCells_length,ho.1]
 go_wp2_with (first|fail|(with_reducible refine qq_ rfl _ rfl bH 1 rfl h.prev rP sP ?_))
 refine (KP.out _ hB).mono ?_
 rintro e v4 ⟨rfl,hb⟩
 replace hH:=hH.on hb
 replace hB:=tb_ hB hb
 clear hb
 clear rP sP KG KF KP
 go_upto_region 9 with fail
 have HB4:=h_ hB
 refine qi_ (by kernel_rfl) (fun w'=>Below v4.heap.size v4 w') (fun i v' w'=>CkR b j p h now y m ch i v' w') (fun _ _ _=>True) (fun w1 w2=>Below w1.heap.size w1 w2) (fun _ _=>Below.refl _ _) (fun i v w w' _ hs h=>qyw_ i v w w' hs h) (by kernel_rfl) (Below.refl _ _).drew (fun _ _=>trivial) ?_ ?_
 ·intro i o listed a wx ho' hnl hdep hinv
  have hC:=hinv.c
  have hi:i<11:=(Array.getElem?_eq_some_iff.1 ho').1
  have hHx:HdAt wx bH h:=hH.on hC
  have hBx:=tb_ HB4.out hC
  have rp:wx.rangeAt b 0 (NN.prC p):=qw_ (rf_pr HR.out.1) hBx (by rw[qt_ hp];decide)
  obtain rfl|rfl|rfl|rfl|rfl|rfl|rfl|rfl|rfl|rfl|rfl:i=0\/i=1\/i=2\/i=3\/i=4\/i=5\/i=6\/i=7\/i=8\/i=9\/i=10:=by omega
  all_goals obtain rfl:=Option.some.inj ho'
  ·exact dV_ (S:=fun w1 w2=>Below w1.heap.size w1 w2) (fun _ _=>Below.refl _ _) 0 hinv (qa_ rfl) (NN.qk_ rfl) (hinv.old' 0) trivial
  ·exact dV_ (S:=fun w1 w2=>Below w1.heap.size w1 w2) (fun _ _=>Below.refl _ _) 1 hinv (qa_ rfl) (ex_nil rfl (gd_ hinv hdep 0 28)) rfl trivial
  ·exact dV_ (S:=fun w1 w2=>Below w1.heap.size w1 w2) (fun _ _=>Below.refl _ _) 2 hinv (qa_ rfl) (qaj_ rfl (gd_ hinv hdep 1 29) (rfield0 wx b)) rfl trivial
  ·exact dV_ (S:=fun w1 w2=>Below w1.heap.size w1 w2) (fun _ _=>Below.refl _ _) 3 hinv (qa_ rfl) (qfe_ rfl (gd_ hinv hdep 2 30) rp (qt_ hp)) rfl trivial
  ·exact dV_ (S:=fun w1 w2=>Below w1.heap.size w1 w2) (fun _ _=>Below.refl _ _) 4 hinv (qa_ rfl) (NN.qk_ rfl) (hinv.old' 0) trivial
  ·exact dV_ (S:=fun w1 w2=>Below w1.heap.size w1 w2) (fun _ _=>Below.refl _ _) 5 hinv (qa_ rfl) (NN.qk_ rfl) (hinv.old' 10) trivial
  ·have e32:a.eval (.tmp 32) = .pointer (some ⟨b,0,none⟩):=(gd_ hinv hdep 4 32)
   have e33:a.eval (.tmp 33) = .int .i64 (j:Int):=(gd_ hinv hdep 5 33)
   exact dE_ (S:=fun w1 w2=>Below w1.heap.size w1 w2) 6 hinv (W:=fun v w'=>∃ ad c,v = .slice ad m c/\HeadersAt w' ad ch) (qa_ rfl) (f:=46) (args:=#[a.eval (.tmp 32),a.eval (.tmp 33)]) (by kernel_rfl) (by rw[e32,e33];exact KC.out wx hBx) (fun v w' hv hb=>⟨tb_ hC hb,hb,hv,trivial⟩)
  ·exact dV_ (S:=fun w1 w2=>Below w1.heap.size w1 w2) (fun _ _=>Below.refl _ _) 7 hinv (qa_ rfl) (qch_ rfl (hinv.old' 4) hHx za) rfl trivial
  ·exact dV_ (S:=fun w1 w2=>Below w1.heap.size w1 w2) (fun _ _=>Below.refl _ _) 8 hinv (qa_ rfl) (NN.qk_ rfl) (hinv.old' 2) trivial
  ·have e31:a.eval (.tmp 31) = .agg (NN.prA p):=(gd_ hinv hdep 3 31)
   obtain ⟨ad,c,e34,hch⟩:∃ ad c,a.eval (.tmp 34) = .slice ad m c/\HeadersAt wx ad ch:=(gd_ hinv hdep 6 34)
   have e35:a.eval (.tmp 35) = .agg (hdA h):=(gd_ hinv hdep 7 35)
   have e36:a.eval (.tmp 36) = .int .i64 now:=(gd_ hinv hdep 8 36)
   exact dC_ (S:=fun w1 w2=>Below w1.heap.size w1 w2) 9 hinv (qa_ rfl) (f:=45) (args:=#[a.eval (.tmp 31),a.eval (.tmp 34),a.eval (.tmp 35),a.eval (.tmp 36)]) (by kernel_rfl) (by rw[e31,e34,e35,e36];exact KK.out wx ad c hBx hch) (fun w' hb=>⟨tb_ hC hb,hb,rfl,trivial⟩)
  ·exact dV_ (S:=fun w1 w2=>Below w1.heap.size w1 w2) (fun _ _=>Below.refl _ _) 10 hinv (qa_ rfl) (NN.qah_ rfl) (gd_ hinv hdep 9 37) trivial
 intro listed a' v5 hall hinv
 have hC:=hinv.c
 have e11:a'.eval (.tmp 11) = .int .i64 y:=hinv.got 10 _ 11 rfl (hall 10 (by decide)) rfl
 have e0:a'.eval (.tmp 0) = .pointer (some ⟨b,0,none⟩):=hinv.old' 0
 have e4:a'.eval (.tmp 4) = .pointer (some ⟨bH,0,none⟩):=hinv.old' 4
 have e10:a'.eval (.tmp 10) = .int .i64 (j:Int):=hinv.old' 10
 obtain ⟨u,hu⟩:∃ u:Nat->Value,∀ t,u t=a'.eval (.tmp t):=⟨_,fun _=>rfl⟩
 rw[qav_ a' 108 u hinv.tsize hinv.defers hu]
 rw[<-hu] at e0 e4 e10 e11
 clear hu hinv hall
 simp only[List.range,List.range.loop,List.map_cons,List.map_nil]
 rw[e0,e4,e10,e11]
 clear e0 e4 e10 e11
 replace hH:=hH.on hC
 replace hB:=tb_ hB hC
 clear hC HB4 KC KK
 cases gy
 case true=>
  go_wp2_with fail
  go_ret3
  exact HQ1.out (by simp) _ hB
 go_upto_region 12 with fail
 have hA5:=qd_ hB HR.out.1 HR.out.1.lt
 have q83:∀ d os,(Sort.grow (redrawn v5 d) os).cell? ⟨b,83,none⟩=some (.slice (some ⟨gH,0,none⟩) n cH):=cell_regrown (rf83 hA5 hp)
 have q87:∀ d os,(Sort.grow (redrawn v5 d) os).cell? ⟨b,87,none⟩=some (.int .i64 (room:Int)):=cell_regrown (rf87 hA5 hp)
 clear hA5
 refine wp_region_quiet_below (by kernel_rfl) (by kernel_rfl) ?_
 repeat (first
  | go_big_quiet_step (fail))
 refine wpQuiet_nil ?_
 intro v6 hw'
 have hb:=ql_ v6 hw'
 replace hH:=hH.on hb
 replace hB:=tb_ hB hb
 clear hw' hb q83 q87
 cases gf
 case true=>
  have hroom:room<=n:=of_decide_eq_true HTF.out
  go_wp2_with fail
  go_ret3
  exact HQ2.out (by simp) (by simp) _ hB
 have hroom:¬room<=n:=of_decide_eq_false HTF.out
 have HNE:Hid (Nes b gH gI gA gW bH):=by
  obtain ⟨_,kH⟩:=qbk_ HR.out.2.1 rfl
  obtain ⟨_,kI⟩:=qbk_ HR.out.2.2.1 rfl
  obtain ⟨_,kA⟩:=qbk_ HR.out.2.2.2.1 rfl
  obtain ⟨_,kW⟩:=qbk_ HR.out.2.2.2.2 rfl
  have kb:=HR.out.1.out
  have lb:=HR.out.1.lt
  have lH:=(row_lt HR.out.2.1 (i:=gH) rfl).1
  have lI:=(row_lt HR.out.2.2.1 (i:=gI) rfl).1
  have lA:=(row_lt HR.out.2.2.2.1 (i:=gA) rfl).1
  have lW:=(row_lt HR.out.2.2.2.2 (i:=gW) rfl).1
  have lh:=HBH.out
  exact h_ ⟨qaz_ kb kH (by decide),qaz_ kb kI (by decide),qaz_ kb kA (by decide),qaz_ kb kW (by decide),qaz_ kH kI (by decide),qaz_ kH kA (by decide),qaz_ kH kW (by decide),qaz_ kI kA (by decide),qaz_ kI kW (by decide),qaz_ kA kW (by decide),by omega,by omega,by omega,by omega,by omega⟩
 have fH:¬(bH=b\/bH=gH):=fun h=>h.elim HNE.out.bb HNE.out.bh
 have fI:¬(bH=b\/bH=gI):=fun h=>h.elim HNE.out.bb HNE.out.bi
 have fW:¬(bH=b\/bH=gW):=fun h=>h.elim HNE.out.bb HNE.out.bw
 have k0:=Kp.of (F:=fun _=>False) hB
 have hA:=k0.has HR.out.1 (fun h=>h)
 have rH:=kp_row HR.out.2.1 k0 (fun _ _ h=>h)
 have rI:=kp_row HR.out.2.2.1 k0 (fun _ _ h=>h)
 have rA:=kp_row HR.out.2.2.2.1 k0 (fun _ _ h=>h)
 have rW:=kp_row HR.out.2.2.2.2 k0 (fun _ _ h=>h)
 have HK:=h_ (Kp.of (F:=fun i=>i=b\/i=gH\/i=gI\/i=gA\/i=gW) hB)
 have HWs:Hid (w.heap.size<=v6.heap.size):=h_ hB.size
 clear k0 hB HR
 go_upto_region 14 with fail
 refine qi_ (by kernel_rfl) (fun w'=>Kp (fun i=>i=b\/i=gH) v6 w') (fun i v' _=>HgR b (.slice (some ⟨gH,0,none⟩) n cH) h i v') (fun l a w'=>ApI 6 7 10 57 58 v6.heap.size 30 45 68 (fun cs=>cs=hdA h) (.slice (some ⟨gH,0,none⟩) n cH) n xH b (fun u=>rfA p u (.slice (some ⟨gI,0,none⟩) n cI) (.slice (some ⟨gA,0,none⟩) n cA) (.slice (some ⟨gW,0,none⟩) n cW) room) l a w') (fun _ _=>True) (fun _ _=>trivial) (fun _ _ _ _ _ _ h=>h) (by kernel_rfl) (Kp.of (Below.refl _ _).drew) ?_ ?_ ?_
 ·exact fun l hl=>ApI.zero hl (kp_row rH (Kp.of (F:=fun _=>False) (Below.refl _ _).drew) (fun _ _ h=>h)) (Has.drew hA)
 ·intro i o listed a wx ho' hnl hdep hinv
  have hC:=hinv.c
  have hI:=hinv.i
  have hi:i<11:=(Array.getElem?_eq_some_iff.1 ho').1
  have hHx:HdAt wx bH h:=hC.has hH fH
  have hlx:v6.heap.size<=wx.heap.size:=hC.size
  obtain rfl|rfl|rfl|rfl|rfl|rfl|rfl|rfl|rfl|rfl|rfl:i=0\/i=1\/i=2\/i=3\/i=4\/i=5\/i=6\/i=7\/i=8\/i=9\/i=10:=by omega
  all_goals obtain rfl:=Option.some.inj ho'
  ·have hsz:=hz_ hinv 0
   exact dv_ 0 hinv (qa_ rfl) (NN.qk_ rfl) (hinv.old' 0) (hI.keep hsz (by decide) (by decide) (by decide) _ _ (by decide) (by decide))
  ·have hsz:=hz_ hinv 1
   exact dv_ 1 hinv (qa_ rfl) (NN.qk_ rfl) (hinv.old' 0) (hI.keep hsz (by decide) (by decide) (by decide) _ _ (by decide) (by decide))
  ·have hsz:=hz_ hinv 2
   exact dv_ 2 hinv (qa_ rfl) (ex_nil rfl (gd_ hinv hdep 1 52)) rfl (hI.keep hsz (by decide) (by decide) (by decide) _ _ (by decide) (by decide))
  ·have hsz:=hz_ hinv 3
   exact dv_ 3 hinv (qa_ rfl) (qaj_ rfl (gd_ hinv hdep 2 53) (rfield1 wx b)) rfl (hI.keep hsz (by decide) (by decide) (by decide) _ _ (by decide) (by decide))
  ·have hsz:=hz_ hinv 4
   have hks:=ah_ hinv hnl 10
   have hAx:=hI.ha (by rw[<-qn_ listed 4 10 hsz (by decide)];exact hks)
   exact dv_ 4 hinv (qa_ rfl) (qct_ rfl (gd_ hinv hdep 3 54) (ld_hds (rf83 hAx hp))) rfl (hI.keep hsz (by decide) (by decide) (by decide) _ _ (by decide) (by decide))
  ·have hsz:=hz_ hinv 5
   exact dv_ 5 hinv (qa_ rfl) (qch_ rfl (hinv.old' 4) hHx za) rfl (hI.keep hsz (by decide) (by decide) (by decide) _ _ (by decide) (by decide))
  ·have hsz:=hz_ hinv 6
   have hka:=ah_ hinv hnl 7
   have hks:=ah_ hinv hnl 10
   have hb:Below wx.heap.size wx (wx.alloc _):=(Below.refl _ _).alloc (Nat.le_refl _) (.cells (hdA h) 30)
   exact dm_ 6 hinv (qa_ rfl) (NN.Rg2.qbx_ rfl (gd_ hinv hdep 5 56) (qiu_ _ za wx)) (hC.trans (Kp.of (F:=fun i=>i=b\/i=gH) hb) (fun i hi _=>hi)) rfl (hI.built hsz hka hks (by decide) (by decide) (by rw[hinv.tsize];exact (show 57<108 by decide)) rfl)
  ·have hsz:=hz_ hinv 7
   have hks:=ah_ hinv hnl 10
   have hkb:listed.getD 6 false=true:=hdep ⟨6,.data⟩ (by simp) rfl
   obtain ⟨g,cs,rfl,hg,hgh⟩:=hI.bu hkb hnl
   obtain ⟨v',w',hr,g1,g2,g3⟩:=qcm_ (ρ:=a.eval) (x:=.tmp 55) (y:=.tmp 57) (Ts:=41) Tryz.underlying41 qoe_ (by decide) (by decide) za (qgt_ h) (gd_ hinv hdep 4 55) (hI.ro hnl) hg hgh (by omega)
   exact dm_ 7 hinv (qa_ rfl) (hr _ rfl rfl) (hC.trans (Kp.gb (F:=fun i=>i=b\/i=gH) g2 (fun k hk=>.inr (Option.some.inj hk).symm)) (fun i hi _=>hi)) rfl (hI.appended hsz hks (by decide) (by rw[hinv.tsize];exact (show 58<108 by decide)) rfl g1 g2 g3 hlx (fun e=>HNE.out.nH (Option.some.inj e).symm))
  ·have hsz:=hz_ hinv 8
   exact dv_ 8 hinv (qa_ rfl) (ex_nil rfl (gd_ hinv hdep 0 51)) rfl (hI.keep hsz (by decide) (by decide) (by decide) _ _ (by decide) (by decide))
  ·have hsz:=hz_ hinv 9
   exact dv_ 9 hinv (qa_ rfl) (qaj_ rfl (gd_ hinv hdep 8 59) (rfield1 wx b)) rfl (hI.keep hsz (by decide) (by decide) (by decide) _ _ (by decide) (by decide))
  ·have hsz:=hz_ hinv 10
   have hka:listed.getD 7 false=true:=hdep ⟨7,.data⟩ (by simp) rfl
   obtain ⟨v',cs,rfl,hv',hr',hl'⟩:=hI.ap hka hnl
   obtain ⟨g',c',rfl⟩:=qbw_ hr' (Nat.succ_pos _)
   have hAx:=hI.ha hnl
   have kb:Kp (fun i=>i=b) wx (wx.setCell ⟨b,83,none⟩ (.slice (some ⟨g',0,none⟩) (n+1) c')):=Kp.gb (qby_ wx b 83 _) (fun k hk=>(Option.some.inj hk).symm)
   exact ds_ 10 hinv (qa_ rfl) (qcd_ rfl (gd_ hinv hdep 9 60) hv' (st_hds (Has.free hAx 83) (rf83 hAx hp))) (hC.trans kb (fun i hi _=>.inl hi)) rfl (ApI.stored hsz (by decide) hka rfl (rf_set hAx hp _ 0 rfl) (kp_row hr' kb (fun i hi e=>by
    obtain ⟨_,k⟩:=qbk_ hr' hi
    exact qaz_ k hAx.out (by decide) e)) hl')
 intro listed a' v7 hall hinv
 have hC:=hinv.c
 obtain ⟨vH,cs,rfl,hA,rH,lH⟩:=hinv.i.st (hall 10 (by decide))
 have e0:a'.eval (.tmp 0) = .pointer (some ⟨b,0,none⟩):=hinv.old' 0
 have e4:a'.eval (.tmp 4) = .pointer (some ⟨bH,0,none⟩):=hinv.old' 4
 have e10:a'.eval (.tmp 10) = .int .i64 (j:Int):=hinv.old' 10
 obtain ⟨u,hu⟩:∃ u:Nat->Value,∀ t,u t=a'.eval (.tmp t):=⟨_,fun _=>rfl⟩
 rw[qav_ a' 108 u hinv.tsize hinv.defers hu]
 rw[<-hu] at e0 e4 e10
 clear hu hinv hall
 simp only[List.range,List.range.loop,List.map_cons,List.map_nil]
 rw[e0,e4,e10]
 clear e0 e4 e10
 replace hH:HdAt v7 bH h:=hC.has hH fH
 replace rI:=kp_row rI hC (fun i hi=>fun h=>by have e:gI=i:=Option.some.inj hi;exact h.elim (fun h=>HNE.out.nI (e.trans h).symm) (fun h=>HNE.out.HI.symm (e.trans h)))
 replace rA:=kp_row rA hC (fun i hi=>fun h=>by have e:gA=i:=Option.some.inj hi;exact h.elim (fun h=>HNE.out.nA (e.trans h).symm) (fun h=>HNE.out.HA.symm (e.trans h)))
 replace rW:=kp_row rW hC (fun i hi=>fun h=>by have e:gW=i:=Option.some.inj hi;exact h.elim (fun h=>HNE.out.nW (e.trans h).symm) (fun h=>HNE.out.HW.symm (e.trans h)))
 replace HK:=h_ (HK.out.trans hC (fun i hi _=>hi.elim .inl (fun h=>.inr (.inl h))))
 have LH:Hid (∀k,vH.ownBlock=some k->k=gH\/w.heap.size<=k):=h_ fun k hk=>lH.elim (fun e=>.inl (Option.some.inj (e.symm.trans hk)).symm) (fun ⟨g,e,hg⟩=>.inr (by have:=Option.some.inj (e.symm.trans hk);have:=HWs.out;omega))
 replace HWs:Hid (w.heap.size<=v7.heap.size):=h_ (Nat.le_trans HWs.out hC.size)
 clear hC lH
 have hA0:=hA.out
 obtain ⟨_,h0⟩:=qbk_ rI (i:=gI) rfl
 go_upto_region 15 with fail
 refine qi_ (by kernel_rfl) (fun w'=>Kp (fun i=>i=b\/i=gI) v7 w') (fun i v' _=>IgR b (.slice (some ⟨gI,0,none⟩) n cI) h id i v') (fun l a w'=>ApI 7 8 11 68 69 v7.heap.size 28 45 32 (fun cs=>cs=bytesV id) (.slice (some ⟨gI,0,none⟩) n cI) n xI b (fun u=>rfA p vH u (.slice (some ⟨gA,0,none⟩) n cA) (.slice (some ⟨gW,0,none⟩) n cW) room) l a w') (fun _ _=>True) (fun _ _=>trivial) (fun _ _ _ _ _ _ h=>h) (by kernel_rfl) (Kp.of (Below.refl _ _).drew) ?_ ?_ ?_
 ·exact fun l hl=>ApI.zero hl (kp_row rI (Kp.of (F:=fun _=>False) (Below.refl _ _).drew) (fun _ _ h=>h)) (Has.drew hA)
 ·intro i o listed a wx ho' hnl hdep hinv
  have hC:=hinv.c
  have hI:=hinv.i
  have hi:i<12:=(Array.getElem?_eq_some_iff.1 ho').1
  have hHx:HdAt wx bH h:=hC.has hH fI
  have hlx:v7.heap.size<=wx.heap.size:=hC.size
  obtain rfl|rfl|rfl|rfl|rfl|rfl|rfl|rfl|rfl|rfl|rfl|rfl:i=0\/i=1\/i=2\/i=3\/i=4\/i=5\/i=6\/i=7\/i=8\/i=9\/i=10\/i=11:=by omega
  all_goals obtain rfl:=Option.some.inj ho'
  ·have hsz:=hz_ hinv 0
   exact dv_ 0 hinv (qa_ rfl) (NN.qk_ rfl) (hinv.old' 0) (hI.keep hsz (by decide) (by decide) (by decide) _ _ (by decide) (by decide))
  ·have hsz:=hz_ hinv 1
   exact dv_ 1 hinv (qa_ rfl) (NN.qk_ rfl) (hinv.old' 0) (hI.keep hsz (by decide) (by decide) (by decide) _ _ (by decide) (by decide))
  ·have hsz:=hz_ hinv 2
   exact dv_ 2 hinv (qa_ rfl) (ex_nil rfl (gd_ hinv hdep 1 62)) rfl (hI.keep hsz (by decide) (by decide) (by decide) _ _ (by decide) (by decide))
  ·have hsz:=hz_ hinv 3
   exact dv_ 3 hinv (qa_ rfl) (qaj_ rfl (gd_ hinv hdep 2 63) (rfield2 wx b)) rfl (hI.keep hsz (by decide) (by decide) (by decide) _ _ (by decide) (by decide))
  ·have hsz:=hz_ hinv 4
   have hks:=ah_ hinv hnl 11
   have hAx:=hI.ha (by rw[<-qn_ listed 4 11 hsz (by decide)];exact hks)
   exact dv_ 4 hinv (qa_ rfl) (qct_ rfl (gd_ hinv hdep 3 64) (ld_ids (rf84 hAx hp))) rfl (hI.keep hsz (by decide) (by decide) (by decide) _ _ (by decide) (by decide))
  ·have hsz:=hz_ hinv 5
   exact dv_ 5 hinv (qa_ rfl) (qch_ rfl (hinv.old' 4) hHx za) rfl (hI.keep hsz (by decide) (by decide) (by decide) _ _ (by decide) (by decide))
  ·have hsz:=hz_ hinv 6
   have e66:a.eval (.tmp 66) = .agg (hdA h):=(gd_ hinv hdep 5 66)
   exact dC_ (S:=T2_) 6 hinv (qa_ rfl) (f:=13) (args:=#[a.eval (.tmp 66)]) (by kernel_rfl) (by rw[e66];exact KI.out wx) (fun w' hb=>⟨hC.trans (Kp.of (F:=fun i=>i=b\/i=gI) hb) (fun i hi _=>hi),trivial,rfl,(hI.on hb).keep hsz (by decide) (by decide) (by decide) _ _ (by decide) (by decide)⟩)
  ·have hsz:=hz_ hinv 7
   have hka:=ah_ hinv hnl 8
   have hks:=ah_ hinv hnl 11
   have hb:Below wx.heap.size wx (wx.alloc _):=(Below.refl _ _).alloc (Nat.le_refl _) (.cells (bytesV id) 28)
   exact dm_ 7 hinv (qa_ rfl) (NN.Rg2.qbx_ rfl (gd_ hinv hdep 6 67) (qel_ _ zI wx)) (hC.trans (Kp.of (F:=fun i=>i=b\/i=gI) hb) (fun i hi _=>hi)) rfl (hI.built hsz hka hks (by decide) (by decide) (by rw[hinv.tsize];exact (show 68<108 by decide)) rfl)
  ·have hsz:=hz_ hinv 8
   have hks:=ah_ hinv hnl 11
   have hkb:listed.getD 7 false=true:=hdep ⟨7,.data⟩ (by simp) rfl
   obtain ⟨g,cs,rfl,hg,hgh⟩:=hI.bu hkb hnl
   obtain ⟨v',w',hr,g1,g2,g3⟩:=qcm_ (ρ:=a.eval) (x:=.tmp 65) (y:=.tmp 68) (Ts:=34) Tryz.underlying34 qek_ (by decide) (by decide) zI (by rw[qag_];exact Lib.byteCells_one id) (gd_ hinv hdep 4 65) (hI.ro hnl) hg hgh (by omega)
   exact dm_ 8 hinv (qa_ rfl) (hr _ rfl rfl) (hC.trans (Kp.gb (F:=fun i=>i=b\/i=gI) g2 (fun k hk=>.inr (Option.some.inj hk).symm)) (fun i hi _=>hi)) rfl (hI.appended hsz hks (by decide) (by rw[hinv.tsize];exact (show 69<108 by decide)) rfl g1 g2 g3 hlx (fun e=>HNE.out.nI (Option.some.inj e).symm))
  ·have hsz:=hz_ hinv 9
   exact dv_ 9 hinv (qa_ rfl) (ex_nil rfl (gd_ hinv hdep 0 61)) rfl (hI.keep hsz (by decide) (by decide) (by decide) _ _ (by decide) (by decide))
  ·have hsz:=hz_ hinv 10
   exact dv_ 10 hinv (qa_ rfl) (qaj_ rfl (gd_ hinv hdep 9 70) (rfield2 wx b)) rfl (hI.keep hsz (by decide) (by decide) (by decide) _ _ (by decide) (by decide))
  ·have hsz:=hz_ hinv 11
   have hka:listed.getD 8 false=true:=hdep ⟨8,.data⟩ (by simp) rfl
   obtain ⟨v',cs,rfl,hv',hr',hl'⟩:=hI.ap hka hnl
   obtain ⟨g',c',rfl⟩:=qbw_ hr' (Nat.succ_pos _)
   have hAx:=hI.ha hnl
   have kb:Kp (fun i=>i=b) wx (wx.setCell ⟨b,84,none⟩ (.slice (some ⟨g',0,none⟩) (n+1) c')):=Kp.gb (qby_ wx b 84 _) (fun k hk=>(Option.some.inj hk).symm)
   exact ds_ 11 hinv (qa_ rfl) (qcd_ rfl (gd_ hinv hdep 10 71) hv' (st_ids (Has.free hAx 84) (rf84 hAx hp))) (hC.trans kb (fun i hi _=>.inl hi)) rfl (ApI.stored hsz (by decide) hka rfl (rf_set hAx hp _ 1 rfl) (kp_row hr' kb (fun i hi e=>by
    obtain ⟨_,k⟩:=qbk_ hr' hi
    exact qaz_ k hAx.out (by decide) e)) hl')
 intro listed a' v8 hall hinv
 have hC:=hinv.c
 obtain ⟨vI,cs,rfl,hA,rI,lI⟩:=hinv.i.st (hall 11 (by decide))
 have e0:a'.eval (.tmp 0) = .pointer (some ⟨b,0,none⟩):=hinv.old' 0
 have e4:a'.eval (.tmp 4) = .pointer (some ⟨bH,0,none⟩):=hinv.old' 4
 have e10:a'.eval (.tmp 10) = .int .i64 (j:Int):=hinv.old' 10
 obtain ⟨u,hu⟩:∃ u:Nat->Value,∀ t,u t=a'.eval (.tmp t):=⟨_,fun _=>rfl⟩
 rw[qav_ a' 108 u hinv.tsize hinv.defers hu]
 rw[<-hu] at e0 e4 e10
 clear hu hinv hall
 simp only[List.range,List.range.loop,List.map_cons,List.map_nil]
 rw[e0,e4,e10]
 clear e0 e4 e10
 replace hH:HdAt v8 bH h:=hC.has hH fI
 replace rH:=kp_row rH hC (fun i hi=>fun h=>by obtain ⟨_,k⟩:=qbk_ rH hi;exact h.elim (fun h=>qaz_ k hA0 (by decide) h) (fun h=>qaz_ k h0 (by decide) h))
 replace rA:=kp_row rA hC (fun i hi=>fun h=>by have e:gA=i:=Option.some.inj hi;exact h.elim (fun h=>HNE.out.nA (e.trans h).symm) (fun h=>HNE.out.IA.symm (e.trans h)))
 replace rW:=kp_row rW hC (fun i hi=>fun h=>by have e:gW=i:=Option.some.inj hi;exact h.elim (fun h=>HNE.out.nW (e.trans h).symm) (fun h=>HNE.out.IW.symm (e.trans h)))
 replace HK:=h_ (HK.out.trans hC (fun i hi _=>hi.elim .inl (fun h=>.inr (.inr (.inl h)))))
 have LI:Hid (∀k,vI.ownBlock=some k->k=gI\/w.heap.size<=k):=h_ fun k hk=>lI.elim (fun e=>.inl (Option.some.inj (e.symm.trans hk)).symm) (fun ⟨g,e,hg⟩=>.inr (by have:=Option.some.inj (e.symm.trans hk);have:=HWs.out;omega))
 replace HWs:Hid (w.heap.size<=v8.heap.size):=h_ (Nat.le_trans HWs.out hC.size)
 clear hC lI
 replace hA0:=hA.out
 obtain ⟨_,h0⟩:=qbk_ rW (i:=gW) rfl
 go_upto_region 16 with fail
 refine qi_ (by kernel_rfl) (fun w'=>Kp (fun i=>i=b\/i=gW) v8 w') (fun i v' _=>WgR b bH gW j z (.slice (some ⟨gW,0,none⟩) n cW) h.bits i v') (fun l a w'=>ApI 16 17 20 88 89 v8.heap.size 26 45 4 (fun cs=>∃ z,z<NN.Nm.big/\cs=NN.numC z) (.slice (some ⟨gW,0,none⟩) n cW) n xW b (fun u=>rfA p vH vI (.slice (some ⟨gA,0,none⟩) n cA) u room) l a w') (fun _ _=>True) (fun _ _=>trivial) (fun _ _ _ _ _ _ h=>h) (by kernel_rfl) (Kp.of (Below.refl _ _).drew) ?_ ?_ ?_
 ·exact fun l hl=>ApI.zero hl (kp_row rW (Kp.of (F:=fun _=>False) (Below.refl _ _).drew) (fun _ _ h=>h)) (Has.drew hA)
 ·intro i o listed a wx ho' hnl hdep hinv
  have hC:=hinv.c
  have hI:=hinv.i
  have hi:i<21:=(Array.getElem?_eq_some_iff.1 ho').1
  have hHx:HdAt wx bH h:=hC.has hH fW
  have hlx:v8.heap.size<=wx.heap.size:=hC.size
  obtain rfl|rfl|rfl|rfl|rfl|rfl|rfl|rfl|rfl|rfl|rfl|rfl|rfl|rfl|rfl|rfl|rfl|rfl|rfl|rfl|rfl:i=0\/i=1\/i=2\/i=3\/i=4\/i=5\/i=6\/i=7\/i=8\/i=9\/i=10\/i=11\/i=12\/i=13\/i=14\/i=15\/i=16\/i=17\/i=18\/i=19\/i=20:=by omega
  all_goals obtain rfl:=Option.some.inj ho'
  ·have hsz:=hz_ hinv 0
   exact dv_ 0 hinv (qa_ rfl) (NN.qk_ rfl) (hinv.old' 0) (hI.keep hsz (by decide) (by decide) (by decide) _ _ (by decide) (by decide))
  ·have hsz:=hz_ hinv 1
   exact dv_ 1 hinv (qa_ rfl) (NN.qk_ rfl) (hinv.old' 0) (hI.keep hsz (by decide) (by decide) (by decide) _ _ (by decide) (by decide))
  ·have hsz:=hz_ hinv 2
   exact dv_ 2 hinv (qa_ rfl) (ex_nil rfl (gd_ hinv hdep 1 73)) rfl (hI.keep hsz (by decide) (by decide) (by decide) _ _ (by decide) (by decide))
  ·have hsz:=hz_ hinv 3
   exact dv_ 3 hinv (qa_ rfl) (qaj_ rfl (gd_ hinv hdep 2 74) (rfield4 wx b)) rfl (hI.keep hsz (by decide) (by decide) (by decide) _ _ (by decide) (by decide))
  ·have hsz:=hz_ hinv 4
   have hks:=ah_ hinv hnl 20
   have hAx:=hI.ha (by rw[<-qn_ listed 4 20 hsz (by decide)];exact hks)
   exact dv_ 4 hinv (qa_ rfl) (qct_ rfl (gd_ hinv hdep 3 75) (qaax_ (rf86 hAx hp))) rfl (hI.keep hsz (by decide) (by decide) (by decide) _ _ (by decide) (by decide))
  ·have hsz:=hz_ hinv 5
   exact dv_ 5 hinv (qa_ rfl) (NN.qk_ rfl) (hinv.old' 0) (hI.keep hsz (by decide) (by decide) (by decide) _ _ (by decide) (by decide))
  ·have hsz:=hz_ hinv 6
   exact dv_ 6 hinv (qa_ rfl) (ex_nil rfl (gd_ hinv hdep 5 77)) rfl (hI.keep hsz (by decide) (by decide) (by decide) _ _ (by decide) (by decide))
  ·have hsz:=hz_ hinv 7
   exact dv_ 7 hinv (qa_ rfl) (qaj_ rfl (gd_ hinv hdep 6 78) (rfield4 wx b)) rfl (hI.keep hsz (by decide) (by decide) (by decide) _ _ (by decide) (by decide))
  ·have hsz:=hz_ hinv 8
   have hks:=ah_ hinv hnl 20
   have hAx:=hI.ha (by rw[<-qn_ listed 8 20 hsz (by decide)];exact hks)
   exact dv_ 8 hinv (qa_ rfl) (qct_ rfl (gd_ hinv hdep 7 79) (qaax_ (rf86 hAx hp))) rfl (hI.keep hsz (by decide) (by decide) (by decide) _ _ (by decide) (by decide))
  ·have hsz:=hz_ hinv 9
   exact dv_ 9 hinv (qa_ rfl) (NN.qk_ rfl) (hinv.old' 10) (hI.keep hsz (by decide) (by decide) (by decide) _ _ (by decide) (by decide))
  ·have hsz:=hz_ hinv 10
   exact dv_ 10 hinv (qa_ rfl) (ex_idx rfl (gd_ hinv hdep 8 80) (gd_ hinv hdep 9 81) (quq_ wx gW j n cW HJ.out)) rfl (hI.keep hsz (by decide) (by decide) (by decide) _ _ (by decide) (by decide))
  ·have hsz:=hz_ hinv 11
   have hka:=ah_ hinv hnl 17
   exact dv_ 11 hinv (qa_ rfl) (qhi_ rfl (gd_ hinv hdep 10 82) (HWj.out _ (hI.ro (by rw[<-qn_ listed 11 17 hsz (by decide)];exact hka)))) rfl (hI.keep hsz (by decide) (by decide) (by decide) _ _ (by decide) (by decide))
  ·have hsz:=hz_ hinv 12
   exact dv_ 12 hinv (qa_ rfl) (qaj_ rfl (hinv.old' 4) (hfield4 wx bH)) rfl (hI.keep hsz (by decide) (by decide) (by decide) _ _ (by decide) (by decide))
  ·have hsz:=hz_ hinv 13
   exact dv_ 13 hinv (qa_ rfl) (NN.qbf_ rfl (gd_ hinv hdep 12 84) (hHx.bits ho)) rfl (hI.keep hsz (by decide) (by decide) (by decide) _ _ (by decide) (by decide))
  ·have hsz:=hz_ hinv 14
   have e85:a.eval (.tmp 85) = .int .i64 h.bits:=(gd_ hinv hdep 13 85)
   refine dA_ (S:=T2_) 14 hinv (qa_ rfl) (f:=42) (args:=#[a.eval (.tmp 85)]) (by kernel_rfl) ?_
   rw[e85]
   refine (KO.out wx).mono ?_
   rintro e w' ⟨zq,hq,rfl,hb⟩
   exact ⟨_,rfl,hC.trans (Kp.of (F:=fun i=>i=b\/i=gW) hb) (fun i hi _=>hi),trivial,⟨zq,hq,rfl⟩,(hI.on hb).keep hsz (by decide) (by decide) (by decide) _ _ (by decide) (by decide)⟩
  ·have hsz:=hz_ hinv 15
   have e83:a.eval (.tmp 83) = .agg (NN.numC z):=(gd_ hinv hdep 11 83)
   obtain ⟨zb,hzb,e86⟩:NumV (a.eval (.tmp 86)):=(gd_ hinv hdep 14 86)
   refine dA_ (S:=T2_) 15 hinv (qa_ rfl) (f:=47) (args:=#[a.eval (.tmp 83),a.eval (.tmp 86)]) (by kernel_rfl) ?_
   rw[e83,e86]
   refine (KS.out zb hzb wx).mono ?_
   rintro e w' ⟨zq,hq,rfl,hb⟩
   exact ⟨_,rfl,hC.trans (Kp.of (F:=fun i=>i=b\/i=gW) hb) (fun i hi _=>hi),trivial,⟨zq,hq,rfl⟩,(hI.on hb).keep hsz (by decide) (by decide) (by decide) _ _ (by decide) (by decide)⟩
  ·have hsz:=hz_ hinv 16
   have hka:=ah_ hinv hnl 17
   have hks:=ah_ hinv hnl 20
   obtain ⟨zb,hzb,e87⟩:NumV (a.eval (.tmp 87)):=(gd_ hinv hdep 15 87)
   have hb:Below wx.heap.size wx (wx.alloc _):=(Below.refl _ _).alloc (Nat.le_refl _) (.cells (NN.numC zb) 26)
   exact dm_ 16 hinv (qa_ rfl) (NN.Rg2.qbx_ rfl e87 (qkt_ _ (NN.qbl_ zb) wx)) (hC.trans (Kp.of (F:=fun i=>i=b\/i=gW) hb) (fun i hi _=>hi)) rfl (hI.built hsz hka hks (by decide) (by decide) (by rw[hinv.tsize];exact (show 88<108 by decide)) ⟨zb,hzb,rfl⟩)
  ·have hsz:=hz_ hinv 17
   have hks:=ah_ hinv hnl 20
   have hkb:listed.getD 16 false=true:=hdep ⟨16,.data⟩ (by simp) rfl
   obtain ⟨g,cs,⟨zb,hzb,rfl⟩,hg,hgh⟩:=hI.bu hkb hnl
   obtain ⟨v',w',hr,g1,g2,g3⟩:=qcm_ (ρ:=a.eval) (x:=.tmp 76) (y:=.tmp 88) (Ts:=43) Tryz.underlying43 qun_ (by decide) (by decide) (NN.qbl_ zb) (qaao_ zb) (gd_ hinv hdep 4 76) (hI.ro hnl) hg hgh (by omega)
   exact dm_ 17 hinv (qa_ rfl) (hr _ rfl rfl) (hC.trans (Kp.gb (F:=fun i=>i=b\/i=gW) g2 (fun k hk=>.inr (Option.some.inj hk).symm)) (fun i hi _=>hi)) rfl (hI.appended hsz hks (by decide) (by rw[hinv.tsize];exact (show 89<108 by decide)) ⟨zb,hzb,rfl⟩ g1 g2 g3 hlx (fun e=>HNE.out.nW (Option.some.inj e).symm))
  ·have hsz:=hz_ hinv 18
   exact dv_ 18 hinv (qa_ rfl) (ex_nil rfl (gd_ hinv hdep 0 72)) rfl (hI.keep hsz (by decide) (by decide) (by decide) _ _ (by decide) (by decide))
  ·have hsz:=hz_ hinv 19
   exact dv_ 19 hinv (qa_ rfl) (qaj_ rfl (gd_ hinv hdep 18 90) (rfield4 wx b)) rfl (hI.keep hsz (by decide) (by decide) (by decide) _ _ (by decide) (by decide))
  ·have hsz:=hz_ hinv 20
   have hka:listed.getD 17 false=true:=hdep ⟨17,.data⟩ (by simp) rfl
   obtain ⟨v',cs,⟨zb,hzb,rfl⟩,hv',hr',hl'⟩:=hI.ap hka hnl
   obtain ⟨g',c',rfl⟩:=qbw_ hr' (Nat.succ_pos _)
   have hAx:=hI.ha hnl
   have kb:Kp (fun i=>i=b) wx (wx.setCell ⟨b,86,none⟩ (.slice (some ⟨g',0,none⟩) (n+1) c')):=Kp.gb (qby_ wx b 86 _) (fun k hk=>(Option.some.inj hk).symm)
   exact ds_ 20 hinv (qa_ rfl) (qcd_ rfl (gd_ hinv hdep 19 91) hv' (st_nums (Has.free hAx 86) (rf86 hAx hp))) (hC.trans kb (fun i hi _=>.inl hi)) rfl (ApI.stored hsz (by decide) hka ⟨zb,hzb,rfl⟩ (rf_set hAx hp _ 3 rfl) (kp_row hr' kb (fun i hi e=>by
    obtain ⟨_,k⟩:=qbk_ hr' hi
    exact qaz_ k hAx.out (by decide) e)) hl')
 intro listed a' v9 hall hinv
 have hC:=hinv.c
 obtain ⟨vW,cs,⟨zb,hzb,rfl⟩,hA,rW,lW⟩:=hinv.i.st (hall 20 (by decide))
 have e0:a'.eval (.tmp 0) = .pointer (some ⟨b,0,none⟩):=hinv.old' 0
 have e4:a'.eval (.tmp 4) = .pointer (some ⟨bH,0,none⟩):=hinv.old' 4
 have e10:a'.eval (.tmp 10) = .int .i64 (j:Int):=hinv.old' 10
 obtain ⟨u,hu⟩:∃ u:Nat->Value,∀ t,u t=a'.eval (.tmp t):=⟨_,fun _=>rfl⟩
 rw[qav_ a' 108 u hinv.tsize hinv.defers hu]
 rw[<-hu] at e0 e4 e10
 clear hu hinv hall
 simp only[List.range,List.range.loop,List.map_cons,List.map_nil]
 rw[e0,e4,e10]
 clear e0 e4 e10
 replace hH:HdAt v9 bH h:=hC.has hH fW
 replace rH:=kp_row rH hC (fun i hi=>fun h=>by obtain ⟨_,k⟩:=qbk_ rH hi;exact h.elim (fun h=>qaz_ k hA0 (by decide) h) (fun h=>qaz_ k h0 (by decide) h))
 replace rI:=kp_row rI hC (fun i hi=>fun h=>by obtain ⟨_,k⟩:=qbk_ rI hi;exact h.elim (fun h=>qaz_ k hA0 (by decide) h) (fun h=>qaz_ k h0 (by decide) h))
 replace rA:=kp_row rA hC (fun i hi=>fun h=>by have e:gA=i:=Option.some.inj hi;exact h.elim (fun h=>HNE.out.nA (e.trans h).symm) (fun h=>HNE.out.AW (e.trans h)))
 replace HK:=h_ (HK.out.trans hC (fun i hi _=>hi.elim .inl (fun h=>.inr (.inr (.inr (.inr h))))))
 have LW:Hid (∀k,vW.ownBlock=some k->k=gW\/w.heap.size<=k):=h_ fun k hk=>lW.elim (fun e=>.inl (Option.some.inj (e.symm.trans hk)).symm) (fun ⟨g,e,hg⟩=>.inr (by have:=Option.some.inj (e.symm.trans hk);have:=HWs.out;omega))
 replace HWs:Hid (w.heap.size<=v9.heap.size):=h_ (Nat.le_trans HWs.out hC.size)
 clear hC lW
 have HZb:=h_ hzb
 clear hA0 h0 hzb
 have hb2:Below v9.heap.size v9 (v9.alloc (.cells #[.int .i64 (j:Int)] 3)):=(Below.refl _ _).alloc (Nat.le_refl _) _
 have k2:=Kp.of (F:=fun _=>False) hb2
 have rA2:=kp_row rA k2 (fun _ _ h=>h)
 have hA2:=k2.has hA (fun h=>h)
 have hz2:(v9.alloc (.cells #[.int .i64 (j:Int)] 3)).cell? ⟨v9.heap.size,0,none⟩=some (.int .i64 (j:Int)):=Has.cell (Has.new _ _) 0
 have c85:=rf85 hA hp
 have hmk:=fun w=>qdw_ w (j:Int)
 go_upto_region 18 with (first
  | ((with_reducible refine quo_ rfl _ _ rfl (.slice (some ⟨gA,0,none⟩) n cA) n lA rfl rA2 v9.heap.size (j:Int) rfl hz2 hn9 ?_);intro vA v10 rA10 gA10 lA10;obtain ⟨gA',cA',rfl⟩:=qbw_ rA10 (Nat.succ_pos _);have hA10:Has v10 b (rfA p vH vI (.slice (some ⟨gA,0,none⟩) n cA) vW room) 45:=(gA10.block b (Has.lt hA2) (fun e=>HNE.out.nA (Option.some.inj e))).trans hA2;have f85:=Has.free hA10 85;have d85:=rf85 hA10 hp)
  | (with_reducible refine qur_ rfl _ _ rfl ⟨b,85,none⟩ _ _ _ _ rfl rfl f85 d85 ?_))
 simp only[Act.put]
 have lA:∀ k,(Value.slice (some ⟨gA',0,none⟩) (n+1) cA').ownBlock=some k->k=gA\/w.heap.size<=k:=fun k hk=>lA10.elim (fun e=>.inl (Option.some.inj (e.symm.trans hk)).symm) (fun e=>.inr (by have:=Option.some.inj (e.symm.trans hk);have:=HWs.out;have:=hb2.size;omega))
 have LA:=h_ lA
 have kA:Kp (fun i=>i=b\/i=gA) v9 (v10.setCell ⟨b,85,none⟩ (.slice (some ⟨gA',0,none⟩) (n+1) cA')):=((Kp.of (F:=fun i=>i=b\/i=gA) hb2).trans (Kp.gb (F:=fun i=>i=b\/i=gA) gA10 (fun k hk=>.inr (Option.some.inj hk).symm)) (fun i hi _=>hi)).trans (Kp.gb (F:=fun i=>i=b\/i=gA) (qby_ v10 b 85 _) (fun k hk=>.inl (Option.some.inj hk).symm)) (fun i hi _=>hi)
 have hA11:=rf_set hA10 hp (.slice (some ⟨gA',0,none⟩) (n+1) cA') 2 rfl
 have rA11:=kp_row rA10 (Kp.gb (F:=fun i=>i=b) (qby_ v10 b 85 (.slice (some ⟨gA',0,none⟩) (n+1) cA')) (fun k hk=>(Option.some.inj hk).symm)) (fun i hi e=>by
  obtain ⟨_,k⟩:=qbk_ rA10 hi
  exact qaz_ k hA10.out (by decide) e)
 have hA0:=hA.out
 obtain ⟨_,h0⟩:=qbk_ rA (i:=gA) rfl
 replace rH:=kp_row rH kA (fun i hi=>fun h=>by obtain ⟨_,k⟩:=qbk_ rH hi;exact h.elim (fun h=>qaz_ k hA0 (by decide) h) (fun h=>qaz_ k h0 (by decide) h))
 replace rI:=kp_row rI kA (fun i hi=>fun h=>by obtain ⟨_,k⟩:=qbk_ rI hi;exact h.elim (fun h=>qaz_ k hA0 (by decide) h) (fun h=>qaz_ k h0 (by decide) h))
 replace rW:=kp_row rW kA (fun i hi=>fun h=>by obtain ⟨_,k⟩:=qbk_ rW hi;exact h.elim (fun h=>qaz_ k hA0 (by decide) h) (fun h=>qaz_ k h0 (by decide) h))
 replace HK:=h_ (HK.out.trans kA (fun i hi _=>hi.elim .inl (fun h=>.inr (.inr (.inr (.inl h))))))
 clear hA0 h0 kA lA hA hA2 rA rA2 k2 hz2 hmk hb2 gA10 lA10 f85 d85 c85 hA10 rA10 hH
 generalize hv11:v10.setCell ⟨b,85,none⟩ (.slice (some ⟨gA',0,none⟩) (n+1) cA')=v11 at *
 clear hv11
 have hA12:Has v11 b (rfA p vH vI (.slice (some ⟨gA',0,none⟩) (n+1) cA') vW room) 45:=hA11
 clear hA11
 obtain ⟨gH',cH',rfl⟩:=qbw_ rH (Nat.succ_pos _)
 have HF:=h_ (HQ3.out rfl rfl v11 _ vI _ vW zb HZb.out hA12 rH rI rA11 rW LH.out LI.out LA.out LW.out HK.out)
 have c83:=rf83 hA12 hp
 clear hA12 rH rI rA11 rW HK
 obtain ⟨n1,hn1⟩:∃ n1,n1=n+1:=⟨_,rfl⟩
 rw[<-hn1] at c83
 have wm:IntKind.i64.wrap ((n1:Int) - 1)=(n:Int):=by rw[IntKind.wrap_i64];omega
 clear hn1
 go_wp2_with fail
 go_ret3
 exact HF.out
end Go.Proofs.YtcppnfkjklhhdaaGreatDoor.An
namespace Go.Proofs.YtcppnfkjklhhdaaGreatDoor.An
open Go.RowKit Mem Sc
open Ar (Ent Ru entZ Ok)
theorem why_pos (r:Ru) (e:Ent) (h:Hd) (now:Int):0<=Ar.why r e h now:=by
 unfold Ar.why chk
 repeat' split
 all_goals omega
theorem qut_ {p:NN.Pr} {t:Tl} {r:Ru} (h:Alike p t r) (hs:List Hd) (hd:Hd) (now:Int):rchk p r.gs r.cs (way p r.g hs hs.length) hd now=rchk r.p r.gs r.cs (way r.p r.g hs hs.length) hd now:=by
 obtain ⟨pl,pi,ps,pf,pe,pt⟩:=p
 obtain ⟨⟨rl,ri,rs,rf,re,rt⟩,_,_,_,_⟩:=r
 obtain ⟨h1,h2,h3,h4,h5,h6⟩:=h
 simp only at h1 h2 h3 h4 h5
 subst h1 h2 h3 h4 h5
 rfl
theorem RfS.keep {w w':World} {B:Nat} {F:Nat->Prop} {b:Nat} {r:Ru} {M:List Ent} (h:RfS w B F b r M) (hb:Below w.heap.size w w'):RfS w' B (Nxt F w w') b r M:=by
 have h0:=h.1
 have h1:=h.2.1
 have hs:=hb.size
 exact (h.below hb).wide (fun _ hi=>.inl hi) fun i hi=>hi.elim (fun hi=>⟨(h1 i hi).1,by have:=(h1 i hi).2;omega⟩) fun hi=>⟨Nat.le_trans h0 hi.1,hi.2⟩
theorem radd_at {w:World} {B:Nat} {F:Nat->Prop} {b:Nat} {r:Ru} {M:List Ent} (hR:RfS w B F b r M) (hM:Ok r M) (hl:M.length<=900) (hgl:r.gs.length<=1000) (hcl:r.cs.length<=1000) (hiv:2<=r.p.ivl) (h:Hd) (ho:h.ok) (now:Int) (n1:-9223372036854775808<=now) (n2:now<=9223372036854775807) :
  Calls Tryz.prog 28 #[.pointer (some ⟨b,0,none⟩),.agg (hdA h),.int .i64 now] w fun e w'=>e = .returned (.tuple #[.int .i64 (Ar.add r M h now).1.1,.int .i64 (Ar.add r M h now).1.2.1,.int .i64 (Ar.add r M h now).1.2.2])/\RfS w' B (Nxt F w w') b r (Ar.add r M h now).2/\Kp F w w':=by
 have hpos:=hM.pos
 have KG:∀ g,decide h.P=g->HK_ w 33 #[.agg (hdA h)] (.bool g):=fun g hg=>h_ fun w' _=>by rw[<-hg];exact qde_ h ho w'
 by_cases hP:h.P
 ·have KG1:=KG true (decide_eq_true hP)
  have KI:HG_ 13 #[.agg (hdA h)] (.agg (bytesV h.id)):=h_ fun w'=>rid_at h ho w'
  have KI2:HK_ w 13 #[.agg (hdA h)] (.agg (bytesV h.id)):=h_ fun w' _=>rid_at h ho w'
  cases h1:Ar.fnd r.g M h.id with
  | some i=>
   have ea:Ar.add r M h now=((((i:Nat):Int),(0:Int),(0:Int)),M):=by unfold Ar.add;rw[if_neg (fun hh=>hh hP),h1]
   rw[ea]
   refine (qqm_ b h ho now w KG1 h.id KI2 i (h_ fun w' hb=>?_)).mono ?_
   ·have:=qjc_ (hR.below hb) hpos (by omega) h.id (qo_ h)
    rwa [h1] at this
   ·rintro e w' ⟨rfl,hb⟩
    exact ⟨rfl,hR.keep hb,Kp.of hb⟩
  | none=>
   have KF:HK_ w 20 #[.pointer (some ⟨b,0,none⟩),.agg (bytesV h.id)] (.int .i64 (-1)):=h_ fun w' hb=>by
    have:=qjc_ (hR.below hb) hpos (by omega) h.id (qo_ h)
    rwa [h1] at this
   cases h2:Ar.fnd r.g M h.prev with
   | none=>
    have ea:Ar.add r M h now=((-1,2,5),M):=by unfold Ar.add;rw[if_neg (fun hh=>hh hP),h1];simp only[h2]
    rw[ea]
    refine (qup_ b h ho now w KG1 h.id KI2 KF (h_ fun w' hb=>?_)).mono ?_
    ·have:=qjc_ (hR.below hb) hpos (by omega) h.prev ho.1
     rwa [h2] at this
    ·rintro e w' ⟨rfl,hb⟩
     exact ⟨rfl,hR.keep hb,Kp.of hb⟩
   | some j=>
    have KP:HK_ w 20 #[.pointer (some ⟨b,0,none⟩),.agg (bytesV h.prev)] (.int .i64 (j:Int)):=h_ fun w' hb=>by
     have:=qjc_ (hR.below hb) hpos (by omega) h.prev ho.1
     rwa [h2] at this
    obtain ⟨d,hd,_⟩:=Ar.qee_ h2
    have hjl:=(List.getElem?_eq_some_iff.1 hd).1
    have eD:M.getD j entZ=d:=by rw[List.getD_eq_getElem?_getD,hd];rfl
    have hdl:=(hM.chain j d hd).1
    have hR':=hR
    obtain ⟨b0,b1,b2,p,t,vH,vI,vA,vW,ws,h3,h4,h5,g1,g2,g3,g4⟩:=hR'
    have rH:=h3.rowH
    have rI:=h3.rowI
    have rA:=h3.rowA
    have rW:=h3.rowW
    rw[List.length_map] at rH rI rA
    rw[h5] at rW
    obtain ⟨gH,cH,rfl⟩:=qbw_ rH hpos
    obtain ⟨gI,cI,rfl⟩:=qbw_ rI hpos
    obtain ⟨gA,cA,rfl⟩:=qbw_ rA hpos
    obtain ⟨gW,cW,rfl⟩:=qbw_ rW hpos
    obtain ⟨z,hz⟩:∃ z,ws[j]?=some z:=⟨_,List.getElem?_eq_getElem (by omega)⟩
    have hzb:=h3.small z (List.mem_of_getElem? hz)
    have HWj:Hid (∀w':World,w'.ownsRow 0 26 4 (.slice (some ⟨gW,0,none⟩) M.length cW) M.length (ws.flatMap fun z=>(NN.numC z).toList)->w'.rangeAt gW (j*4) (NN.numC z).toList):=h_ fun w' hr=>by
     obtain ⟨A,C,e,hA⟩:=qeq_ (fun z=>(NN.numC z).toList) 4 ws (fun z _=>by rw[Array.length_toList,NN.qbl_]) j z hz
     rw[e] at hr
     obtain ⟨g,c,e1,e2⟩:=row_at hr hpos
     rw[hA] at e2
     cases e1
     exact e2
    have KC:Hid (∀w',Below w.heap.size w w'->Calls Tryz.prog 46 #[.pointer (some ⟨b,0,none⟩),.int .i64 (j:Int)] w' fun e w''=>∃ v,e = .returned v/\(∃ad c,v = .slice ad (d.hs.length+1) c/\HeadersAt w'' ad (r.g :: d.hs))/\Below w'.heap.size w' w''):=h_ fun w' hb=>(qyu_ (hR.below hb) hM hl j d hd).mono fun e w'' ⟨ad,c,e1,e2,_,e3⟩=>⟨_,e1,⟨ad,c,rfl,e2⟩,e3⟩
    have ey:rchk p r.gs r.cs (way p r.g d.hs d.hs.length) h now=Ar.why r d h now:=(qut_ h4 d.hs h now).trans (hM.rwhy hiv hd h now n1 n2)
    have KK:Hid (∀w' ad c,Below w.heap.size w w'->HeadersAt w' ad (r.g :: d.hs)->Calls Tryz.prog 45 #[.agg (NN.prA p),.slice ad (d.hs.length+1) c,.agg (hdA h),.int .i64 now] w' fun e w''=>e = .returned (.int .i64 (Ar.why r d h now))/\Below w'.heap.size w' w''):=h_ fun w' ad c hb hH=>by
     rw[<-ey]
     have hk:=h3.below hb
     exact qxy_ p hk.pok t hk.tt r.gs r.cs hk.gn hk.cn (by rw[hk.gn];exact hgl) (by rw[hk.cn];exact hcl) ad r.g d.hs _ c rfl (by omega) h ho now w' hH hk.gates.now hk.checks.now
    have hwp:=why_pos r d h now
    refine qus_ b p h3.pok r.room M.length gH cH gI cI gA cA gW cW _ _ _ (M.map Ent.up) h ho now w h3.has rH rI rA rW hl j hjl z hzb HWj KG1 h.id (qo_ h) KI KF KP (d.hs.length+1) (r.g :: d.hs) KC (Ar.why r d h now) KK (h_ (NN.qks_ h.bits)) (h_ fun x hx=>?_) _ _ rfl rfl _ (h_ fun hy w' hb=>?_) (h_ fun hy hf w' hb=>?_) (h_ fun hy hf w' vH vI vA vW z' hz' a1 a2 a3 a4 a5 l1 l2 l3 l4 hk=>?_)
    ·obtain ⟨q,hq,hc⟩:=NN.qacp_ z x hzb hx
     exact fun w'=>(hc w').mono fun e w'' ⟨e1,e2⟩=>⟨q,hq,e1,e2⟩
    ·have h3':¬Ar.why r d h now=0:=by have:=of_decide_eq_true hy;omega
     have ea:Ar.add r M h now=((-1,Ar.why r d h now,8),M):=by unfold Ar.add;rw[if_neg (fun hh=>hh hP),h1];simp only[h2,eD];rw[if_pos h3']
     rw[ea]
     exact ⟨rfl,hR.keep hb,Kp.of hb⟩
    ·have h3':Ar.why r d h now=0:=by have:=of_decide_eq_false hy;omega
     have ea:Ar.add r M h now=((-1,0,6),M):=by unfold Ar.add;rw[if_neg (fun hh=>hh hP),h1];simp only[h2,eD];rw[if_neg (fun hh=>hh h3'),if_pos (of_decide_eq_true hf)]
     rw[ea]
     exact ⟨rfl,hR.keep hb,Kp.of hb⟩
    ·have h3':Ar.why r d h now=0:=by have:=of_decide_eq_false hy;omega
     have ea:Ar.add r M h now=((((M.length:Nat):Int),(0:Int),(0:Int)),M ++ [⟨d.hs ++ [h],(j:Int)⟩]):=by unfold Ar.add;rw[if_neg (fun hh=>hh hP),h1];simp only[h2,eD];rw[if_neg (fun hh=>hh h3'),if_neg (of_decide_eq_false hf)]
     rw[ea]
     have fH:=g1 gH rfl
     have fI:=g2 gI rfl
     have fA:=g3 gA rfl
     have fW:=g4 gW rfl
     have big:∀ i,(i=b\/i=gH\/i=gI\/i=gA\/i=gW)->F i:=by rintro i (rfl|rfl|rfl|rfl|rfl) <;> assumption
     have nx:∀ {T:TypeId} {size n:Nat} {v:Value} {xs:List Value} {g:Nat},F g->w'.ownsRow 0 T size v n xs->(∀k,v.ownBlock=some k->k=g\/w.heap.size<=k)->∀ i,v.ownBlock=some i->Nxt F w w' i:=fun hg hr hv i hi=>(hv i hi).elim (fun e=>.inl (e ▸ hg)) (fun e=>.inr ⟨e,(row_lt hr hi).1⟩)
     have nb:∀ i,Nxt F w w' i->¬i<B:=fun i hi hlt=>hi.elim (fun h=>by have:=(b1 i h).1;omega) (fun h=>by omega)
     have eh:(M ++ [(⟨d.hs ++ [h],(j:Int)⟩:Ent)]).map (Ent.h r.g)=M.map (Ent.h r.g) ++ [h]:=by rw[List.map_append,List.map_singleton,Ar.h_app]
     have ei:(M ++ [(⟨d.hs ++ [h],(j:Int)⟩:Ent)]).map (fun e=>(e.h r.g).id)=M.map (fun e=>(e.h r.g).id) ++ [h.id]:=by rw[List.map_append,List.map_singleton,Ar.h_app]
     refine ⟨rfl,⟨Nat.le_trans b0 hk.size,fun i hi=>hi.elim (fun hi=>⟨(b1 i hi).1,Nat.lt_of_lt_of_le (b1 i hi).2 hk.size⟩) (fun hi=>⟨Nat.le_trans b0 hi.1,hi.2⟩),.inl b2,p,t,vH,vI,vA,vW,ws ++ [z'],?_,h4,by simp[h5],nx fH a2 l1,nx fI a3 l2,nx fA a4 l3,nx fW a5 l4⟩,hk.mono fun i hi _=>big i hi⟩
     have lowI:∀ i,i<B->¬(i=b\/i=gH\/i=gI\/i=gA\/i=gW):=fun i hi hf=>by have:=(b1 i (big i hf)).1;omega
     exact {
      has:=a1,pok:=h3.pok,one:=h3.one,tt:=h3.tt,tok:=h3.tok,gn:=h3.gn,cn:=h3.cn
      rowH:=by rw[eh,List.flatMap_append];simpa using a2
      rowI:=by rw[ei,List.flatMap_append];simpa using a3
      rowA:=by rw[List.map_append];simpa using a4
      rowW:=by rw[List.flatMap_append];simpa [h5] using a5
      gates:=h3.gates.on hk lowI
      checks:=h3.checks.on hk lowI
      nb:=h3.nb
      nH:=fun k hk'=>nb k (nx fH a2 l1 k hk')
      nI:=fun k hk'=>nb k (nx fI a3 l2 k hk')
      nA:=fun k hk'=>nb k (nx fA a4 l3 k hk')
      nW:=fun k hk'=>nb k (nx fW a5 l4 k hk')
      lt:=fun i hi=>Nat.lt_of_lt_of_le (h3.lt i hi) hk.size
      good:=fun x hx=>by
       rw[eh,List.mem_append,List.mem_singleton] at hx
       exact hx.elim (h3.good x) (fun e=>e ▸ ho)
      name:=fun x hx=>by
       rw[ei,List.mem_append,List.mem_singleton] at hx
       exact hx.elim (h3.name x) (fun e=>e ▸ qo_ h)
      small:=fun x hx=>by
       rw[List.mem_append,List.mem_singleton] at hx
       exact hx.elim (h3.small x) (fun e=>e ▸ hz') }
 ·have ea:Ar.add r M h now=((-1,1,8),M):=by unfold Ar.add;rw[if_pos hP]
  rw[ea]
  refine (qyv_ b h ho now w (KG false (decide_eq_false hP))).mono ?_
  rintro e w' ⟨rfl,hb⟩
  exact ⟨rfl,hR.keep hb,Kp.of hb⟩
end Go.Proofs.YtcppnfkjklhhdaaGreatDoor.An
namespace Go.Proofs.YtcppnfkjklhhdaaGreatDoor.An
open Go.RowKit Mem Sc NN.Rg2
open Ar (Ent Ru entZ Ok)
section
variable {ρ:Operand->Value} {o:Oper} {w:World}
theorem efield2 (w:World) (g:Nat):(Instr.fieldAt 76 (.pointer (some ⟨g,0,none⟩)) 2).run Tryz.prog w = .ok (.pointer (some ⟨g,100,none⟩)) w:=by kernel_rfl
theorem efield3 (w:World) (g:Nat):(Instr.fieldAt 76 (.pointer (some ⟨g,0,none⟩)) 3).run Tryz.prog w = .ok (.pointer (some ⟨g,101,none⟩)) w:=by kernel_rfl
theorem ex_neqs {T:TypeId} {x y:Operand} {xs ys:Array Value} {v:Value} (hg:Tryz.prog.eqGuardType Tryz.prog.depth T=false) (ho:o.op = .binOp .neq T x y T) (hx:ρ x = .agg xs) (hy:ρ y = .agg ys) (h:∀ w,(binOp .neq T (.agg xs) (.agg ys)).run Tryz.prog w = .ok v w):(execOp ρ o).run Tryz.prog w = .ok (.value v) w:=by
 unfold execOp
 simp only[ho,hx,hy,Sem.run_bind,Sem.run_pure,run_eqGuard_agg w .neq T x y xs ys hg,Result.andThen_ok,h]
theorem ex_neqi {x y:Operand} {c d:Int} (ho:o.op = .binOp .neq 3 x y 3) (hx:ρ x = .int .i64 c) (hy:ρ y = .int .i64 d):(execOp ρ o).run Tryz.prog w = .ok (.value (.bool (c != d))) w:=by
 unfold execOp
 simp only[ho,hx,hy]
 kernel_rfl
theorem ex_subi {x y:Operand} {c d z:Int} (ho:o.op = .binOp .sub 3 x y 3) (hx:ρ x = .int .i64 c) (hy:ρ y = .int .i64 d) (hz:IntKind.i64.wrap (c - d)=z):(execOp ρ o).run Tryz.prog w = .ok (.value (.int .i64 z)) w:=by
 subst hz
 unfold execOp
 simp only[ho,hx,hy]
 kernel_rfl
theorem ex_nots {x:Operand} {c:Bool} (ho:o.op = .unOp .not 4 x) (hx:ρ x = .bool c):(execOp ρ o).run Tryz.prog w = .ok (.value (.bool (!c))) w:=by
 unfold execOp
 simp only[ho,hx]
 kernel_rfl
end
end Go.Proofs.YtcppnfkjklhhdaaGreatDoor.An
namespace Go.Proofs.YtcppnfkjklhhdaaGreatDoor.An
open Go.RowKit Mem Sc
open Ar (Ent Ru entZ Ok)
end Go.Proofs.YtcppnfkjklhhdaaGreatDoor.An
namespace Go.Proofs.YtcppnfkjklhhdaaGreatDoor.An
open Go.RowKit Mem Sc
open Ar (Ent Ru entZ Ok Lp)
def trA (ab:Nat) (lv:Value):Array Value:=#[.pointer (some ⟨ab,0,none⟩),lv]
def TrS (w:World) (F:Nat->Prop) (b:Nat) (r:Ru) (M:List Ent) (ls:List Int):Prop :=
 (∀i,F i->i<w.heap.size)/\∃ Fa ab lv,Has w b (trA ab lv) 92/\ArS w Fa ab r M/\w.ownsRow 0 3 1 lv ls.length (ls.map (Value.int .i64))/\Lp M ls/\F b/\(∀i,Fa i->F i)/\(∀i,lv.ownBlock=some i->F i)/\¬Fa b/\∀ i,lv.ownBlock=some i->¬Fa i
section
variable {w w':World} {F G:Nat->Prop} {b:Nat} {r:Ru} {M:List Ent} {ls:List Int}
theorem TrS.on (h:TrS w F b r M ls) (k:Kp G w w') (hG:∀ i,F i->¬G i):TrS w' F b r M ls:=by
 obtain ⟨hl,Fa,ab,lv,h1,h2,h3,h4,h5,h6,h7,h8,h9⟩:=h
 exact ⟨fun i hi=>Nat.lt_of_lt_of_le (hl i hi) k.size,Fa,ab,lv,k.has h1 (hG b h5),h2.on k fun i hi=>hG i (h6 i hi),kp_row h3 k fun i hi=>hG i (h7 i hi),h4,h5,h6,h7,h8,h9⟩
theorem TrS.below (h:TrS w F b r M ls) (hb:Below w.heap.size w w'):TrS w' F b r M ls:=h.on (G:=fun _=>False) (Kp.of hb) fun _ _ hf=>hf
theorem TrS.wide (h:TrS w F b r M ls) (hF:∀ i,F i->G i) (hG:∀ i,G i->i<w.heap.size):TrS w G b r M ls:=by
 obtain ⟨_,Fa,ab,lv,h1,h2,h3,h4,h5,h6,h7,h8,h9⟩:=h
 exact ⟨hG,Fa,ab,lv,h1,h2,h3,h4,hF b h5,fun i hi=>hF i (h6 i hi),fun i hi=>hF i (h7 i hi),h8,h9⟩
end
end Go.Proofs.YtcppnfkjklhhdaaGreatDoor.An
namespace Go.Proofs.YtcppnfkjklhhdaaGreatDoor.An
open Go.RowKit Mem Sc
open Ar (Ent Ru entZ Ok)
end Go.Proofs.YtcppnfkjklhhdaaGreatDoor.An
namespace Go.Proofs.YtcppnfkjklhhdaaGreatDoor.An
open Go.RowKit Mem Sc NN.Rg2
open Ar (Ent Ru entZ Ok)
section
variable {ops:Array Oper} {rest:List Oper} {o:Oper} {a:Act} {w:World} {Q:Exit->Act->World->Prop}
theorem qyx_ (hgd:o.guard=none) (x y:Operand) (ho:o.op = .store 3 x y) (q:Addr) (z:Int) (u:Value) (hx:a.eval x = .pointer (some q)) (hy:a.eval y = .int .i64 z) (hf:w.frozen? q=false) (hc:w.cell? q=some u)
  (hk:wpList Tryz.prog ops Q rest (a.put o.dst undef) (w.setCell q (.int .i64 z))):wpList Tryz.prog ops Q (o :: rest) a w :=
 wpList_plain hgd fun _ hK=>by
  have hs:(storeVar 3 q (.int .i64 z)).run Tryz.prog w = .ok () (w.setCell q (.int .i64 z)):=by go_simp
  unfold Oper.wp
  rw[qcd_ ho hx hy hs]
  exact hK _ _ hk
end
section
variable {C:World->Prop} {a:Act} {o:Oper} {K:Act->Prop}
end
end Go.Proofs.YtcppnfkjklhhdaaGreatDoor.An
namespace Go.Proofs.YtcppnfkjklhhdaaGreatDoor.An
open Go.RowKit Mem Sc
open Ar (Ent Ru entZ Ok Lp hgt clr)
set_option maxRecDepth 100000
theorem qafp_ (m:Nat) (hm:m<=9223372036854775807):∃ k:Int,IntKind.i64.wrap ((m:Int) - 1)=k/\bits .and .i64 (m:Int) k=((clr m:Nat):Int):=by
 refine ⟨_,rfl,?_⟩
 by_cases h0:m=0
 ·subst h0;decide
 ·have e:IntKind.i64.wrap ((m:Int) - 1)=((m - 1:Nat):Int):=by rw[IntKind.wrap_i64];omega
  rw[e,NN.andI _ _ (by omega) (by omega)]
  rfl
theorem wl_at (m:Nat) (hm:m<=9223372036854775807) (w:World):Ca_ 68 #[.int .i64 (m:Int)] w (.int .i64 ((clr m:Nat):Int)):=by
 obtain ⟨k,h1,h2⟩:=qafp_ m hm
 obtain ⟨c,hc⟩:∃ c:Int,c=((clr m:Nat):Int):=⟨_,rfl⟩
 rw[<-hc] at h2 |-
 clear hc hm
 obtain ⟨mi,hm⟩:∃ mi:Int,mi=(m:Int):=⟨_,rfl⟩
 rw[<-hm] at h1 h2 |-
 clear hm
 have hB:=Below.refl w.heap.size w
 go_enter Tryz.func68,Tryz.ntmps68
 go_wp2_with fail
 go_ret
 exact ⟨rfl,hB⟩
theorem qmq_ (h:Int) (g1 g2:Bool) (q k c c2 c3:Int) (h1:decide (h<2)=g1) (hq:Int.tmod h 2=q) (h2:(q==0)=g2) (h3:IntKind.i64.wrap (h - 1)=k) (h4:IntKind.i64.wrap (c2+1)=c3) (w:World)
  (K1:Hid (∀w',g1=false->g2=true->Calls Tryz.prog 68 #[.int .i64 h] w' fun e w''=>e = .returned (.int .i64 c)/\Below w'.heap.size w' w''))
  (K2:Hid (∀w',g1=false->g2=false->Calls Tryz.prog 68 #[.int .i64 k] w' fun e w''=>e = .returned (.int .i64 c)/\Below w'.heap.size w' w''))
  (K3:Hid (∀w',g1=false->g2=false->Calls Tryz.prog 68 #[.int .i64 c] w' fun e w''=>e = .returned (.int .i64 c2)/\Below w'.heap.size w' w'')) :
  Ca_ 44 #[.int .i64 h] w (.int .i64 (if g1 then 0 else if g2 then c else c3)):=by
 have hB:=Below.refl w.heap.size w
 cases g1
 ·cases g2
  ·go_enter Tryz.func44,Tryz.ntmps44
   go_wp2_with fail
   refine (K2.out _ (by simp) (by simp)).mono ?_
   rintro e v1 ⟨rfl,hb⟩
   replace hB:=tb_ hB hb
   clear hb
   go_wp2_with fail
   refine (K3.out _ (by simp) (by simp)).mono ?_
   rintro e v2 ⟨rfl,hb⟩
   replace hB:=tb_ hB hb
   clear hb
   go_wp2_with fail
   go_ret
   exact ⟨rfl,hB⟩
  ·go_enter Tryz.func44,Tryz.ntmps44
   go_wp2_with fail
   refine (K1.out _ (by simp) (by simp)).mono ?_
   rintro e v1 ⟨rfl,hb⟩
   replace hB:=tb_ hB hb
   clear hb
   go_wp2_with fail
   go_ret
   exact ⟨rfl,hB⟩
 ·go_enter Tryz.func44,Tryz.ntmps44
  go_wp2_with fail
  go_ret
  exact ⟨rfl,hB⟩
theorem qos_ (h:Int) (hh:h<=9223372036854775807) (h0:-9223372036854775808<=h) (w:World):Ca_ 44 #[.int .i64 h] w (.int .i64 ((hgt h.toNat:Nat):Int)):=by
 by_cases hs:h<2
 ·have:=qmq_ h true (Int.tmod h 2==0) _ _ 0 0 _ (decide_eq_true hs) rfl rfl rfl rfl w (h_ fun _ h=>by cases h) (h_ fun _ h=>by cases h) (h_ fun _ h=>by cases h)
  rw[Ar.qom_ (by omega)]
  exact this
 ·obtain ⟨n,rfl⟩:=Int.eq_ofNat_of_zero_le (by omega:0<=h)
  have hq:Int.tmod (n:Int) 2=((n % 2:Nat):Int):=by rw[Int.tmod_eq_emod_of_nonneg (by omega)];omega
  rw[Int.toNat_natCast]
  by_cases he:n % 2=0
  ·have:=qmq_ (n:Int) false true _ _ ((clr n:Nat):Int) 0 _ (decide_eq_false hs) hq (by rw[he];rfl) rfl rfl w (h_ fun w' _ _=>wl_at n (by omega) w') (h_ fun _ _ h=>by cases h) (h_ fun _ _ h=>by cases h)
   rw[Ar.qtx_ (by omega) he]
   exact this
  ·have e1:IntKind.i64.wrap ((n:Int) - 1)=((n - 1:Nat):Int):=by rw[IntKind.wrap_i64];omega
   have hc1:=Ar.clr_le (n - 1)
   have hc2:=Ar.clr_le (clr (n - 1))
   have e2:IntKind.i64.wrap (((clr (clr (n - 1)):Nat):Int)+1)=((1+clr (clr (n - 1)):Nat):Int):=by rw[IntKind.wrap_i64];omega
   have:=qmq_ (n:Int) false false _ _ ((clr (n - 1):Nat):Int) ((clr (clr (n - 1)):Nat):Int) _ (decide_eq_false hs) hq (by rw[show n % 2=1 by omega];rfl) e1 e2 w (h_ fun _ _ h=>by cases h) (h_ fun w' _ _=>wl_at (n - 1) (by omega) w') (h_ fun w' _ _=>wl_at (clr (n - 1)) (by omega) w')
   rw[Ar.qaan_ (by omega) (by omega)]
   exact this
theorem qafq_ (w:World):Ca_ 38 #[.pointer none] w (.pointer none):=by
 have hB:=Below.refl w.heap.size w
 go_enter Tryz.func38,Tryz.ntmps38
 go_wp2_with fail
 go_ret
 exact ⟨rfl,hB⟩
theorem held_w (b ab:Nat) (w:World) (hv:w.cell? ⟨b,0,none⟩=some (.pointer (some ⟨ab,0,none⟩))):Ca_ 38 #[.pointer (some ⟨b,0,none⟩)] w (.pointer (some ⟨ab,0,none⟩)):=by
 have hB:=Below.refl w.heap.size w
 go_enter Tryz.func38,Tryz.ntmps38
 go_wp2_with fail
 go_ret
 exact ⟨rfl,hB⟩
def HeldIs (w:World) (tp ap:Value):Prop:=∀ w',Below w.heap.size w w'->Calls Tryz.prog 38 #[tp] w' fun e w''=>e = .returned ap/\Below w'.heap.size w' w''
theorem tat_w (tp ap:Value) (k:Int) (e:En) (he:e.ok) (g:Bool) (w:World) (KH:Hid (HeldIs w tp ap)) (KL:Hid (∀w',Below w.heap.size w w'->Calls Tryz.prog 48 #[ap,.int .i64 k] w' fun x w''=>x = .returned (.tuple #[.agg (enA e),.bool g])/\Below w'.heap.size w' w'')) :
  Calls Tryz.prog 29 #[tp,.int .i64 k] w fun x w'=>x = .returned (.tuple #[.agg (enA e),.bool g])/\Below w.heap.size w w':=by
 have z0:=qv_ enZ_ok
 have z1:=qv_ he
 go_enter Tryz.func29,Tryz.ntmps29
 go_upto_region 1 with fail
 generalize hw0:World.alloc _ _=v0
 have hB:Below w.heap.size w v0:=bl_ hw0
 have hR:EnAt v0 w.heap.size enZ:=by rw[<-hw0];exact qbq_ w
 clear hw0
 obtain ⟨bR,hbR⟩:∃ x,x=w.heap.size:=⟨_,rfl⟩
 rw[<-hbR] at hR |-
 have HBR:Hid (w.heap.size<=bR):=h_ (by omega)
 clear hbR
 go_wp2_with fail
 refine (KH.out _ hB).mono ?_
 rintro x v1 ⟨rfl,hb⟩
 replace hR:=hR.on hb
 replace hB:=tb_ hB hb
 clear hb
 go_wp2_with fail
 refine (KL.out _ hB).mono ?_
 rintro x v2 ⟨rfl,hb⟩
 replace hR:=hR.on hb
 replace hB:=tb_ hB hb
 clear hb
 go_wp2_with (with_reducible refine qbc_ rfl _ _ rfl _ _ e rfl rfl rfl z1 hR z0 ?_)
 refine bodyPost_ret (qfd_ Tryz.results29 _ _ _ rfl rfl (Has.row hR _) z1) rfl ⟨rfl,below_setRow hB HBR.out _⟩
section
variable {w:World} {F:Nat->Prop} {b:Nat} {r:Ru} {M:List Ent} {ls:List Int}
theorem HeldIs.nil (w:World):HeldIs w (.pointer none) (.pointer none):=fun w' _=>qafq_ w'
theorem TrS.parts (h:TrS w F b r M ls):∃ Fa ab,HeldIs w (.pointer (some ⟨b,0,none⟩)) (.pointer (some ⟨ab,0,none⟩))/\ArS w Fa ab r M:=by
 obtain ⟨hl,Fa,ab,lv,h1,h2,h3,h4,h5,h6,h7,h8,h9⟩:=h
 exact ⟨Fa,ab,fun w' hb=>held_w b ab w' ((hb.cell (p:=⟨b,0,none⟩) (Has.lt h1)).trans (Has.cell h1 0)),h2⟩
theorem tat_at (h:TrS w F b r M ls) {i:Nat} {e:Ent} (he:M[i]?=some e) (k:Int) (hk:k=(i:Nat)):Calls Tryz.prog 29 #[.pointer (some ⟨b,0,none⟩),.int .i64 k] w fun x w'=>x = .returned (.tuple #[.agg (enA (enOf r e)),.bool true])/\Below w.heap.size w w':=by
 obtain ⟨Fa,ab,k1,k2⟩:=h.parts
 exact tat_w _ _ _ _ (qfr_ k2 he) _ w (h_ k1) (h_ fun w' hb=>at_at (k2.below hb) he k hk)
theorem qku_ (h:TrS w F b r M ls) (k:Int) (hk:¬(0<=k/\k<(M.length:Nat))):Calls Tryz.prog 29 #[.pointer (some ⟨b,0,none⟩),.int .i64 k] w fun x w'=>x = .returned (.tuple #[.agg (enA enN),.bool false])/\Below w.heap.size w w':=by
 obtain ⟨Fa,ab,k1,k2⟩:=h.parts
 exact tat_w _ _ _ _ enN_ok _ w (h_ k1) (h_ fun w' hb=>at_not (k2.below hb) k hk)
end
theorem qot_ (k:Int) (w:World):Calls Tryz.prog 29 #[.pointer none,.int .i64 k] w fun x w'=>x = .returned (.tuple #[.agg (enA enN),.bool false])/\Below w.heap.size w w':=tat_w _ _ _ _ enN_ok _ w (h_ (HeldIs.nil w)) (h_ fun w' _=>at_nil k w')
end Go.Proofs.YtcppnfkjklhhdaaGreatDoor.An
namespace Go.Proofs.YtcppnfkjklhhdaaGreatDoor.An
open Go.RowKit Mem Sc
open Ar (Ent Ru entZ Ok Lp hgt clr Up isP IsAn)
set_option maxRecDepth 100000
def AtIs (w:World) (tp:Value) (r:Ru) (M:List Ent):Prop:=∀ w',Below w.heap.size w w'->∀ (k:Int),(∃(n:Nat) (e:Ent),k=(n:Int)/\M[n]?=some e/\(enOf r e).ok/\Calls Tryz.prog 29 #[tp,.int .i64 k] w' fun x w''=>x = .returned (.tuple #[.agg (enA (enOf r e)),.bool true])/\Below w'.heap.size w' w'')\/(¬isP M k/\Calls Tryz.prog 29 #[tp,.int .i64 k] w' fun x w''=>x = .returned (.tuple #[.agg (enA enN),.bool false])/\Below w'.heap.size w' w'')
def LeapsAt (w:World) (b g n c:Nat) (ls:List Int):Prop:=w.cell? ⟨b,1,none⟩=some (.slice (some ⟨g,0,none⟩) n c)/\∀ (k:Nat) (x:Int),ls[k]?=some x->w.cell? ⟨g,k,none⟩=some (.int .i64 x)
theorem AtIs.below {w w1:World} {tp:Value} {r:Ru} {M:List Ent} (h:AtIs w tp r M) (hb:Below w.heap.size w w1):AtIs w1 tp r M:=fun w' hb'=>h w' (tb_ hb hb')
theorem LeapsAt.below {w w1:World} {b g n c:Nat} {ls:List Int} (h:LeapsAt w b g n c ls) (hb:Below w.heap.size w w1):LeapsAt w1 b g n c ls :=
 ⟨(hb.cell (block_lt_of_cell h.1)).trans h.1,fun k x hk=>(hb.cell (block_lt_of_cell (h.2 k x hk))).trans (h.2 k x hk)⟩
theorem TrS.atis {w:World} {F:Nat->Prop} {b:Nat} {r:Ru} {M:List Ent} {ls:List Int} (h:TrS w F b r M ls):AtIs w (.pointer (some ⟨b,0,none⟩)) r M:=fun w' hb k=>by
 by_cases hk:isP M k
 ·obtain ⟨n,e,rfl,he⟩:=hk.is
  refine .inl ⟨n,e,rfl,he,?_,tat_at (h.below hb) he _ rfl⟩
  obtain ⟨Fa,ab,_,k2⟩:=h.parts
  exact qfr_ k2 he
 ·exact .inr ⟨hk,qku_ (h.below hb) k hk⟩
theorem TrS.leaps {w:World} {F:Nat->Prop} {b:Nat} {r:Ru} {M:List Ent} {ls:List Int} (h:TrS w F b r M ls) (h0:0<ls.length):∃ g c,LeapsAt w b g ls.length c ls:=by
 obtain ⟨hl,Fa,ab,lv,h1,h2,h3,h4,h5,h6,h7,h8,h9⟩:=h
 obtain ⟨g,c,rfl,_⟩:=qer_ h3 (k:=0) (x:=ls[0]) (List.getElem?_eq_getElem h0)
 refine ⟨g,c,Has.cell h1 1,fun k x hk=>?_⟩
 obtain ⟨g2,c2,e,hc⟩:=qer_ h3 hk
 cases e
 exact hc
theorem TrS.lp {w:World} {F:Nat->Prop} {b:Nat} {r:Ru} {M:List Ent} {ls:List Int} (h:TrS w F b r M ls):Lp M ls:=by
 obtain ⟨hl,Fa,ab,lv,h1,h2,h3,h4,_⟩:=h
 exact h4
theorem ahead_w (tp:Value) (k:Int) (E:En) (hE:E.ok) (z:Int) (hz:Hid (E.up=z)) (g:Bool) (w:World) (KA:Hid (∀w',Below w.heap.size w w'->Calls Tryz.prog 29 #[tp,.int .i64 k] w' fun x w''=>x = .returned (.tuple #[.agg (enA E),.bool g])/\Below w'.heap.size w' w'')) :
  Calls Tryz.prog 54 #[tp,.int .i64 k] w fun x w'=>x = .returned (.int .i64 z)/\Below w.heap.size w w':=by
 have ze:=qv_ hE
 have z0:=qv_ enZ_ok
 have hB:=Below.refl w.heap.size w
 go_enter Tryz.func54,Tryz.ntmps54
 go_wp2_with fail
 refine (KA.out _ hB).mono ?_
 rintro x v1 ⟨rfl,hb⟩
 replace hB:=tb_ hB hb
 clear hb
 have hnew:=qbq_ v1
 have hE1:=qdz_ v1 E
 have hb3:=qcb_ v1 76 Tryz.zeroCells76 (enA E)
 go_upto_region 2 with (with_reducible refine qbc_ rfl _ _ rfl _ _ E rfl rfl rfl ze hnew z0 ?_)
 generalize World.setRow _ _ _=v2 at *
 replace hB:=tb_ hB hb3
 have c1:=EnAt.up hE1 hE hz
 clear hb3 hnew
 go_wp2_with fail
 go_ret
 exact ⟨rfl,hB⟩
theorem anc_no (tp:Value) (k h:Int) (E:En) (hE:E.ok) (t:Int) (ht:Hid (E.ht=t)) (g a b:Bool) (ha:decide (h<0)=a) (hb:decide (t<h)=b) (hno:(!g || a || b)=true) (w:World) (KA:Hid (∀w',Below w.heap.size w w'->Calls Tryz.prog 29 #[tp,.int .i64 k] w' fun x w''=>x = .returned (.tuple #[.agg (enA E),.bool g])/\Below w'.heap.size w' w'')) :
  Calls Tryz.prog 30 #[tp,.int .i64 k,.int .i64 h] w fun x w'=>x = .returned (.int .i64 (-1))/\Below w.heap.size w w':=by
 have ze:=qv_ hE
 have z0:=qv_ enZ_ok
 have hB:=Below.refl w.heap.size w
 go_enter Tryz.func30,Tryz.ntmps30
 go_wp2_with fail
 refine (KA.out _ hB).mono ?_
 rintro x v1 ⟨rfl,hb⟩
 replace hB:=tb_ hB hb
 clear hb
 have hnew:=qbq_ v1
 have hE1:=qdz_ v1 E
 have hb3:=qcb_ v1 76 Tryz.zeroCells76 (enA E)
 go_upto_region 2 with (with_reducible refine qbc_ rfl _ _ rfl _ _ E rfl rfl rfl ze hnew z0 ?_)
 generalize World.setRow _ _ _=v2 at *
 replace hB:=tb_ hB hb3
 have c1:=EnAt.ht hE1 hE ht
 clear hb3 hnew
 cases g <;> cases a <;> cases b
 case true.false.false=>cases hno
 all_goals
  clear hno
  go_wp2_with fail
  go_ret
  exact ⟨rfl,hB⟩
theorem up_lt {r:Ru} {M:List Ent} (hM:Ok r M) {n:Nat} {e:Ent} {h:Nat} {z:Int} (he:M[n]?=some e) (k:Up M (n:Int) h z) (hh:h<e.hs.length):0<=z/\z<(n:Int):=by
 obtain ⟨L,h1,h2⟩:=k
 have q:=(h1.up hM).2 z (List.mem_of_getElem? h2)
 refine ⟨q.1,?_⟩
 have h3:=h1.last
 have h4:=h1.len hM he
 have hlt:h<L.length - 1:=by omega
 obtain ⟨u1,u2⟩:=List.getElem?_eq_some_iff.1 h2
 obtain ⟨v1,v2⟩:=List.getElem?_eq_some_iff.1 h3.2
 have:=List.pairwise_iff_getElem.1 (h1.up hM).1 _ _ u1 v1 hlt
 omega
structure Way (r:Ru) (M:List Ent) (i:Int) (t n:Nat) (E:En) (k:Nat):Prop where
 ok:E.ok
 ht:E.ht=(k:Int)
 low:t<=k
 ex:∃ e,M[n]?=some e/\E=enOf r e/\e.hs.length=k/\Up M i k (n:Int)
theorem Way.next {r:Ru} {M:List Ent} {i:Int} {t n:Nat} {E:En} {k:Nat} (hM:Ok r M) (h:Way r M i t n E k) {j:Nat} {z:Int} (hz:∀ e,M[n]?=some e->e.hs.length=k->Up M (n:Int) j z) (hj:j<k) (hj2:t<=j) (hE:∀ (m:Nat) (e:Ent),M[m]?=some e->(enOf r e).ok) :
  ∃ (m:Nat) (e:Ent),z=(m:Int)/\m<n/\M[m]?=some e/\Way r M i t m (enOf r e) j:=by
 obtain ⟨e,h1,h2,h3,h4⟩:=h.ex
 have q:=hz e h1 h3
 obtain ⟨m,d,rfl,hd,hl⟩:=q.place hM
 have:=up_lt hM h1 q (by omega)
 exact ⟨m,d,rfl,by omega,hd,hE m d hd,by rw[<-hl];rfl,hj2,d,hd,rfl,hl,h4.trans q⟩
theorem qafr_ (b g nn c:Nat) (ls:List Int) (r:Ru) (M:List Ent) (hM:Ok r M) (hl:Lp M ls) (hn:nn=ls.length) (hl9:M.length<=900) (i:Nat) (hi:i<ls.length) (e:Ent) (he:M[i]?=some e) (t:Nat) (ht:t<=e.hs.length) (w:World)
  (KA:Hid (AtIs w (.pointer (some ⟨b,0,none⟩)) r M)) (KL:Hid (LeapsAt w b g nn c ls)) :
  Calls Tryz.prog 30 #[.pointer (some ⟨b,0,none⟩),.int .i64 (i:Int),.int .i64 (t:Int)] w fun x w'=>∃ z,x = .returned (.int .i64 z)/\Up M (i:Int) t z/\Below w.heap.size w w':=by
 have KAT:∀ (n:Nat) (e:Ent),M[n]?=some e->Hid (∀w',Below w.heap.size w w'->Calls Tryz.prog 29 #[.pointer (some ⟨b,0,none⟩),.int .i64 (n:Int)] w' fun x w''=>x = .returned (.tuple #[.agg (enA (enOf r e)),.bool true])/\Below w'.heap.size w' w''):=fun n e he=>h_ fun w' hb=>by
  rcases KA.out w' hb (n:Int) with ⟨m,d,h1,h2,_,h3⟩|⟨h1,_⟩
  ·obtain rfl:n=m:=by omega
   rw[he] at h2
   cases h2
   exact h3
  ·exact absurd (Ar.isP_of he) h1
 have HOK:Hid (∀(n:Nat) (e:Ent),M[n]?=some e->(enOf r e).ok):=h_ fun n e he=>by
  rcases KA.out w (Below.refl _ _) (n:Int) with ⟨m,d,h1,h2,h3,_⟩|⟨h1,_⟩
  ·obtain rfl:n=m:=by omega
   rw[he] at h2
   cases h2
   exact h3
  ·exact absurd (Ar.isP_of he) h1
 have hc:=hM.chain i e he
 have hiM:=(List.getElem?_eq_some_iff.1 he).1
 have KA1:=KAT i e he
 have hW:Hid (Way r M (i:Int) t i (enOf r e) e.hs.length):=h_ ⟨HOK.out i e he,rfl,ht,e,he,rfl,rfl,Up.self hM he⟩
 have hE:=HOK.out i e he
 have z0:=qv_ enZ_ok
 have hB:=Below.refl w.heap.size w
 obtain ⟨k,hk⟩:∃ k,k=e.hs.length:=⟨_,rfl⟩
 obtain ⟨E,hEe⟩:∃ E,E=enOf r e:=⟨_,rfl⟩
 have HT:Hid (E.ht=(k:Int)):=h_ (by rw[hEe,hk];rfl)
 rw[<-hk] at ht hc
 rw[<-hEe] at KA1 hE hW
 rw[<-hk] at hW
 have hk9:k<=900:=by omega
 clear he hEe hk KA
 have HN:=h_ hn
 have HI:=h_ hi
 clear hn hi hc
 have ze:=qv_ hE
 have t1:decide ((t:Int)<0)=false:=decide_eq_false (by omega)
 have t2:¬k<t:=by omega
 clear ht
 go_enter Tryz.func30,Tryz.ntmps30
 go_wp2_with fail
 refine (KA1.out _ hB).mono ?_
 rintro x v1 ⟨rfl,hb⟩
 replace hB:=tb_ hB hb
 clear hb
 have hnew:=qbq_ v1
 have hE1:=qdz_ v1 E
 have hb3:=qcb_ v1 76 Tryz.zeroCells76 (enA E)
 go_upto_region 2 with (with_reducible refine qbc_ rfl _ _ rfl _ _ E rfl rfl rfl ze hnew z0 ?_)
 generalize World.setRow _ _ _=v2 at *
 obtain ⟨bX,hbX⟩:∃ x,x=v1.heap.size:=⟨_,rfl⟩
 rw[<-hbX] at hE1 |-
 have HBX:Hid (w.heap.size<=bX):=h_ (by have:=hB.size;omega)
 replace hB:=tb_ hB hb3
 have c1:=EnAt.ht hE1 hE HT
 clear hb3 hnew hbX KA1
 go_wp2_with fail
 clear c1 t1 t2
 go_loopw [1] (fun v wr=>∃ (n:Nat) (E:En) (k:Nat),v = .int .i64 (n:Int)/\k<=900/\EnAt wr bX E/\Hid (n<=i/\Way r M (i:Int) t n E k)/\Below w.heap.size w wr) (fun v _=>(intOf v).toNat)
 case atStart=>exact ⟨i,E,k,rfl,hk9,hE1,h_ ⟨Nat.le_refl _,hW.out⟩,hB⟩
 case round=>
  clear hE1 hB hW HT ze hE hk9
  obtain ⟨n,E,k,rfl,hk9,hE1,HW,hB⟩:=hrel
  have c1:=EnAt.ht hE1 HW.out.2.ok (h_ HW.out.2.ht)
  have ze:=qv_ HW.out.2.ok
  by_cases hlt:t<k
  ·have hN:Hid (n<ls.length):=h_ (by have:=HI.out;have:=HW.out.1;omega)
   have KH:=h_ fun w'=>qos_ (k:Int) (by omega) (by omega) w'
   rw[Int.toNat_natCast] at KH
   have hlt2:=Ar.hgt_lt (h:=k) (by omega)
   by_cases hge:t<=hgt k
   ·obtain ⟨x,hx⟩:∃ x,ls[n]?=some x:=⟨_,List.getElem?_eq_getElem hN.out⟩
    obtain ⟨m,d,rfl,hmn,hd,hW2⟩:=HW.out.2.next hM (z:=x) (j:=hgt k) (fun e he hek=>by have:=hl.to_ n e x he hx (by omega);rwa [hek] at this) hlt2 hge HOK.out
    have HW2:Hid (m<=i/\Way r M (i:Int) t m (enOf r d) (hgt k)):=h_ ⟨by have:=HW.out.1;omega,hW2⟩
    have HX:=h_ hx
    have hnn:n<nn:=by rw[HN.out];exact hN.out
    have KA2:=KAT m d hd
    have hE2:=HOK.out m d hd
    clear hW2 hx hd HW
    generalize enOf r d=E2 at *
    have z2:=qv_ hE2
    go_wp2_with fail
    refine (KH.out _).mono ?_
    rintro x v3 ⟨rfl,hb⟩
    replace hE1:=hE1.on hb
    replace hB:=tb_ hB hb
    have hL1:=KL.out.below hB
    obtain ⟨l1,l2⟩:=hL1
    have l3:=l2 n _ HX.out
    have c2:=EnAt.ht hE1
    clear hb l2 KH c2
    go_wp2_with fail
    refine (KA2.out _ hB).mono ?_
    rintro x v4 ⟨rfl,hb⟩
    replace hE1:=hE1.on hb
    replace hB:=tb_ hB hb
    clear hb l1 l3 KA2
    go_wp2_with (with_reducible refine qbc_ rfl _ _ rfl _ _ E2 rfl rfl rfl z2 hE1 ze ?_)
    have hE3:EnAt _ bX E2:=Has.row hE1 (enA E2)
    have hB3:=below_setRow hB HBX.out (enA E2)
    generalize World.setRow _ _ _=v5 at *
    simp only[Act.put]
    go_roundw
    case rel=>exact ⟨m,E2,hgt k,rfl,by omega,hE3,HW2,hB3⟩
    case measure=>simp[intOf];omega
   ·have hup:Hid (∃(m:Nat) (e:Ent),E.up=(m:Int)/\m<n/\M[m]?=some e/\Way r M (i:Int) t m (enOf r e) (k - 1)):=h_ (by
     obtain ⟨e,h1,h2,h3,h4⟩:=HW.out.2.ex
     have:=HW.out.2.next hM (z:=e.up) (j:=k - 1) (fun d hd hdk=>by rw[h1] at hd;cases hd;have:=(Up.ahead hM h1 (by omega)).1;rwa [h3] at this) (by omega) (by omega) HOK.out
     rw[h2]
     exact this)
    obtain ⟨m,d,hu,hmn,hd,hW2⟩:=hup.out
    have HU:=h_ hu
    have HW2:Hid (m<=i/\Way r M (i:Int) t m (enOf r d) (k - 1)):=h_ ⟨by have:=HW.out.1;omega,hW2⟩
    have KA2:=KAT m d hd
    have hE2:=HOK.out m d hd
    have HEok:=h_ HW.out.2.ok
    clear hW2 hd HW hup hu
    generalize enOf r d=E2 at *
    have z2:=qv_ hE2
    go_wp2_with fail
    refine (KH.out _).mono ?_
    rintro x v3 ⟨rfl,hb⟩
    replace hE1:=hE1.on hb
    replace hB:=tb_ hB hb
    have c2:=EnAt.up hE1 HEok.out HU
    clear hb KH
    go_wp2_with fail
    refine (KA2.out _ hB).mono ?_
    rintro x v4 ⟨rfl,hb⟩
    replace hE1:=hE1.on hb
    replace hB:=tb_ hB hb
    clear hb c2 KA2
    go_wp2_with (with_reducible refine qbc_ rfl _ _ rfl _ _ E2 rfl rfl rfl z2 hE1 ze ?_)
    have hE3:EnAt _ bX E2:=Has.row hE1 (enA E2)
    have hB3:=below_setRow hB HBX.out (enA E2)
    generalize World.setRow _ _ _=v5 at *
    simp only[Act.put]
    go_roundw
    case rel=>exact ⟨m,E2,k - 1,rfl,by omega,hE3,HW2,hB3⟩
    case measure=>simp[intOf];omega
  ·have hup:Hid (Up M (i:Int) t (n:Int)):=h_ (by
    obtain ⟨e,h1,h2,h3,h4⟩:=HW.out.2.ex
    have:=HW.out.2.low
    obtain rfl:k=t:=by omega
    exact h4)
   clear HW ze
   go_wp2_with fail
   go_ret
   exact ⟨_,rfl,hup.out,hB⟩
theorem qfh_ {w:World} {F:Nat->Prop} {b:Nat} {r:Ru} {M:List Ent} {ls:List Int} (h:TrS w F b r M ls) (hM:Ok r M) (hl9:M.length<=900) (i t z:Int) (hi:isP M i->i<(ls.length:Int)) (hz:IsAn M i t z) :
  Calls Tryz.prog 30 #[.pointer (some ⟨b,0,none⟩),.int .i64 i,.int .i64 t] w fun x w'=>x = .returned (.int .i64 z)/\Below w.heap.size w w':=by
 have hA:=h.atis
 by_cases hp:isP M i
 ·obtain ⟨n,e,rfl,he⟩:=hp.is
  have hn:=hi hp
  have hE:(enOf r e).ok/\∀ w',Below w.heap.size w w'->Calls Tryz.prog 29 #[.pointer (some ⟨b,0,none⟩),.int .i64 (n:Int)] w' fun x w''=>x = .returned (.tuple #[.agg (enA (enOf r e)),.bool true])/\Below w'.heap.size w' w'':=by
   obtain ⟨Fa,ab,_,k2⟩:=h.parts
   exact ⟨qfr_ k2 he,fun w' hb=>tat_at (h.below hb) he _ rfl⟩
  by_cases hlow:t<0\/(e.hs.length:Int)<t
  ·have ez:z = -1:=hlow.elim (fun hh=>hz.no (.inr hh)) (fun hh=>hz.high hM he hh)
   subst ez
   exact anc_no _ (n:Int) t (enOf r e) hE.1 (e.hs.length:Nat) (h_ rfl) true _ _ rfl rfl (by simp only[Bool.not_true,Bool.false_or,Bool.or_eq_true,decide_eq_true_eq];exact hlow) w (h_ hE.2)
  ·obtain ⟨tn,rfl⟩:=Int.eq_ofNat_of_zero_le (by omega:0<=t)
   obtain ⟨g,c,hL⟩:=h.leaps (by omega)
   refine (qafr_ b g ls.length c ls r M hM h.lp rfl hl9 n (by omega) e he tn (by omega) w (h_ hA) (h_ hL)).mono ?_
   rintro x w' ⟨z',rfl,hu,hb⟩
   have:=hz.up hM he (by omega) (by omega)
   rw[Int.toNat_natCast] at this
   rw[hu.det this]
   exact ⟨rfl,hb⟩
 ·have ez:=hz.no (.inl hp)
  subst ez
  have hE:∀ w',Below w.heap.size w w'->Calls Tryz.prog 29 #[.pointer (some ⟨b,0,none⟩),.int .i64 i] w' fun x w''=>x = .returned (.tuple #[.agg (enA enN),.bool false])/\Below w'.heap.size w' w'':=fun w' hb=>qku_ (h.below hb) i hp
  exact anc_no _ i t enN enN_ok 0 (h_ rfl) false _ _ rfl rfl rfl w (h_ hE)
theorem qafs_ {w:World} {F:Nat->Prop} {b:Nat} {r:Ru} {M:List Ent} {ls:List Int} (h:TrS w F b r M ls) {n:Nat} {e:Ent} (he:M[n]?=some e) :
  Calls Tryz.prog 54 #[.pointer (some ⟨b,0,none⟩),.int .i64 (n:Int)] w fun x w'=>x = .returned (.int .i64 e.up)/\Below w.heap.size w w':=by
 obtain ⟨Fa,ab,_,k2⟩:=h.parts
 exact ahead_w _ (n:Int) (enOf r e) (qfr_ k2 he) e.up (h_ rfl) true w (h_ fun w' hb=>tat_at (h.below hb) he _ rfl)
theorem qmr_ (tp:Value) (k i:Int) (E:En) (hE:E.ok) (t z:Int) (ht:Hid (E.ht=t)) (g g2:Bool) (hg:(z==k)=g2) (w:World) (KA:Hid (∀w',Below w.heap.size w w'->Calls Tryz.prog 29 #[tp,.int .i64 k] w' fun x w''=>x = .returned (.tuple #[.agg (enA E),.bool g])/\Below w'.heap.size w' w''))
  (KN:Hid (∀w',Below w.heap.size w w'->g=true->Calls Tryz.prog 30 #[tp,.int .i64 i,.int .i64 t] w' fun x w''=>x = .returned (.int .i64 z)/\Below w'.heap.size w' w'')) :
  Calls Tryz.prog 22 #[tp,.int .i64 k,.int .i64 i] w fun x w'=>x = .returned (.bool (g && g2))/\Below w.heap.size w w':=by
 have ze:=qv_ hE
 have z0:=qv_ enZ_ok
 have hB:=Below.refl w.heap.size w
 go_enter Tryz.func22,Tryz.ntmps22
 go_wp2_with fail
 refine (KA.out _ hB).mono ?_
 rintro x v1 ⟨rfl,hb⟩
 replace hB:=tb_ hB hb
 clear hb
 have hnew:=qbq_ v1
 have hE1:=qdz_ v1 E
 have hb3:=qcb_ v1 76 Tryz.zeroCells76 (enA E)
 go_upto_region 2 with (with_reducible refine qbc_ rfl _ _ rfl _ _ E rfl rfl rfl ze hnew z0 ?_)
 generalize World.setRow _ _ _=v2 at *
 replace hB:=tb_ hB hb3
 have c1:=EnAt.ht hE1 hE ht
 clear hb3 hnew
 cases g
 ·go_wp2_with fail
  go_ret
  exact ⟨rfl,hB⟩
 ·go_wp2_with fail
  refine (KN.out _ hB (by simp)).mono ?_
  rintro x v3 ⟨rfl,hb⟩
  replace hB:=tb_ hB hb
  clear hb
  go_wp2_with fail
  go_ret
  exact ⟨by cases g2 <;> rfl,hB⟩
theorem qyy_ {w:World} {F:Nat->Prop} {b:Nat} {r:Ru} {M:List Ent} {ls:List Int} (h:TrS w F b r M ls) (hM:Ok r M) (hl9:M.length<=900) (hl:ls.length=M.length) (k i:Int) (g:Bool) (hg:g=true ↔ Ar.Anc M k i) :
  Calls Tryz.prog 22 #[.pointer (some ⟨b,0,none⟩),.int .i64 k,.int .i64 i] w fun x w'=>x = .returned (.bool g)/\Below w.heap.size w w':=by
 by_cases hp:isP M k
 ·obtain ⟨n,e,rfl,he⟩:=hp.is
  obtain ⟨z,hz⟩:=IsAn.ex M i (e.hs.length:Int)
  have hE:(enOf r e).ok/\∀ w',Below w.heap.size w w'->Calls Tryz.prog 29 #[.pointer (some ⟨b,0,none⟩),.int .i64 (n:Int)] w' fun x w''=>x = .returned (.tuple #[.agg (enA (enOf r e)),.bool true])/\Below w'.heap.size w' w'':=by
   obtain ⟨Fa,ab,_,k2⟩:=h.parts
   exact ⟨qfr_ k2 he,fun w' hb=>tat_at (h.below hb) he _ rfl⟩
  have:=qmr_ _ (n:Int) i (enOf r e) hE.1 (e.hs.length:Nat) z (h_ rfl) true (z==(n:Int)) rfl w (h_ hE.2) (h_ fun w' hb _=>qfh_ (h.below hb) hM hl9 i _ z (fun hq=>by rw[hl];exact hq.2) hz)
  have eg:(true && z==(n:Int))=g:=by
   have h1:=Ar.qyc_ hM he hz
   have h2:(z==(n:Int))=true ↔ g=true:=by rw[beq_iff_eq,hg,<-h1];exact ⟨fun h=>h.symm,fun h=>h.symm⟩
   rw[Bool.true_and]
   exact Bool.eq_iff_iff.2 h2
  rw[eg] at this
  exact this
 ·have eg:g=false:=by
   cases g
   ·rfl
   ·exact absurd (by have:=(hg.1 rfl).le hM;exact ⟨this.1,this.2.2⟩) hp
  subst eg
  exact qmr_ _ k i enN enN_ok 0 0 (h_ rfl) false (0==k) rfl w (h_ fun w' hb=>qku_ (h.below hb) k hp) (h_ fun _ _ h=>by cases h)
theorem quu_ (k i:Int) (w:World):Calls Tryz.prog 22 #[.pointer none,.int .i64 k,.int .i64 i] w fun x w'=>x = .returned (.bool false)/\Below w.heap.size w w' :=
 qmr_ _ k i enN enN_ok 0 0 (h_ rfl) false (0==k) rfl w (h_ fun w' _=>qot_ k w') (h_ fun _ _ h=>by cases h)
end Go.Proofs.YtcppnfkjklhhdaaGreatDoor.An
