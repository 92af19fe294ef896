import Derived.Test.YtcppnfkjklhhdaaGreatDoorVIdm
import Derived.Test.YtcppnfkjklhhdaaGreatDoorVBunQ39
set_option maxRecDepth 100000
set_option maxHeartbeats 4000000
namespace Go.Proofs.YtcppnfkjklhhdaaGreatDoor.An
open Go.RowKit Mem Sc NN.Rg2
open Ar (Ent Ru entZ Ok Lp hgt Up isP IsAn)
theorem tfield1 (w:World) (g:Nat):(Instr.fieldAt 92 (.pointer (some ⟨g,0,none⟩)) 1).run Tryz.prog w = .ok (.pointer (some ⟨g,1,none⟩)) w:=by kernel_rfl
theorem ld_ints {w:World} {p:Addr} {a:Option Addr} {n c:Nat} (h:w.cell? p=some (.slice a n c)):(loadVar 42 p).run Tryz.prog w = .ok (.slice a n c) w:=by
 go_simp
theorem tr_set {w:World} {b ab:Nat} {v:Value} (h:Has w b (trA ab v) 92) (v':Value):Has (w.setCell ⟨b,1,none⟩ v') b (trA ab v') 92:=Has.set (i:=1) h v'
def TaR (tp ap:Value) (h:Hd) (now x1 x2 x3:Int):Nat->Value->Prop
 | 0,u=>u=tp
 | 1,u=>u=ap
 | 2,u=>u = .agg (hdA h)
 | 3,u=>u = .int .i64 now
 | 4,u|5,u=>u = .tuple #[.int .i64 x1,.int .i64 x2,.int .i64 x3]
 | 6,u|9,u=>u = .int .i64 x1
 | 7,u|10,u=>u = .int .i64 x2
 | 8,u|11,u=>u = .int .i64 x3
 | _,_=>now=now
def TgR (b bE g n c:Nat) (ua k q y:Int):Nat->Value->Prop
 | 0,v|1,v|2,v|5,v|14,v=>v = .pointer (some ⟨b,0,none⟩)
 | 3,v|15,v=>v = .pointer (some ⟨b,1,none⟩)
 | 4,v=>v = .slice (some ⟨g,0,none⟩) n c
 | 6,v=>v = .pointer (some ⟨bE,100,none⟩)
 | 7,v=>v = .int .i64 ua
 | 8,v=>v = .pointer (some ⟨bE,101,none⟩)
 | 9,v=>v = .int .i64 k
 | 10,v=>v = .int .i64 q
 | 11,v=>v = .int .i64 y
 | _,_=>b=b
theorem quv_ (ab:Nat) (v:Value) (hv:v.oneCell'=true):Tryz.prog.built 92 [(0,.pointer (some ⟨ab,0,none⟩)),(1,v)]=some (trA ab v):=by
 have h:Tryz.prog.built 92 [(0,.pointer (some ⟨ab,0,none⟩)),(1,v)]=Instr.fill ((#[(0,1),(1,1)]:Array (Nat × Nat))[·]?) #[.pointer none,.slice none 0 0] [(0,.pointer (some ⟨ab,0,none⟩)),(1,v)]:=by kernel_rfl
 rw[h]
 cases v <;> first|rfl|cases hv
theorem tnew_w (p:NN.Pr) (hp:p.ok) (room:Int) (r:Ru) (w:World) (KN:Hid (∀w',Below w.heap.size w w'->Calls Tryz.prog 41 #[.agg (NN.prA p),.int .i64 room] w' fun e w''=>∃ b F,e = .returned (.tuple #[.pointer (some ⟨b,0,none⟩),.int .i64 0])/\ArS w'' F b r [entZ]/\(∀i,F i->w'.heap.size<=i)/\Below w'.heap.size w' w'')) :
  Calls Tryz.prog 25 #[.agg (NN.prA p),.int .i64 room] w fun e w'=>∃ b F,e = .returned (.tuple #[.pointer (some ⟨b,0,none⟩),.int .i64 0])/\TrS w' F b r [entZ] [-1]/\(∀i,F i->w.heap.size<=i)/\Below w.heap.size w w':=by
 have hz:=NN.qat_ hp
 go_enter Tryz.func25,Tryz.ntmps25
 go_upto_region 1 with fail
 generalize hw0:World.alloc _ _=v0
 have hB:Below w.heap.size w v0:=bl_ hw0
 have hP:NN.PrAt v0 w.heap.size p:=by rw[<-hw0];exact NN.Has.new _ _
 clear hw0
 go_wp2_with (first|fail|(with_reducible refine NN.qr_ rfl _ rfl _ rfl hP hz ?_))
 refine (KN.out _ hB).mono ?_
 rintro e v1 ⟨ab,Fa,rfl,hA,hF,hb⟩
 have hF0:∀ i,Fa i->w.heap.size<=i:=fun i hi=>Nat.le_trans hB.size (hF i hi)
 replace hB:=tb_ hB hb
 clear hb hP hF
 have hmk:=fun w=>qdw_ w (-1)
 have hbt:=fun g=>quv_ ab (.slice (some ⟨g,0,none⟩) 1 1) rfl
 go_wp2_with fail
 have hL1:Has (v1.alloc (.cells #[.int .i64 (-1)] 3)) v1.heap.size #[.int .i64 (-1)] 3:=Has.new _ _
 have hbL:Below v1.heap.size v1 (v1.alloc (.cells #[.int .i64 (-1)] 3)):=(Below.refl _ _).alloc (Nat.le_refl _) _
 have hsz:(v1.alloc (.cells #[.int .i64 (-1)] 3)).heap.size=v1.heap.size+1:=by simp
 generalize v1.alloc (.cells #[.int .i64 (-1)] 3)=v2 at *
 have hT:Has (v2.alloc (.cells (trA ab (.slice (some ⟨v1.heap.size,0,none⟩) 1 1)) 92)) v2.heap.size (trA ab (.slice (some ⟨v1.heap.size,0,none⟩) 1 1)) 92:=Has.new _ _
 rw[hsz] at hT
 have hbT:Below v2.heap.size v2 (v2.alloc (.cells (trA ab (.slice (some ⟨v1.heap.size,0,none⟩) 1 1)) 92)):=(Below.refl _ _).alloc (Nat.le_refl _) _
 have hsz2:(v2.alloc (.cells (trA ab (.slice (some ⟨v1.heap.size,0,none⟩) 1 1)) 92)).heap.size=v2.heap.size+1:=by simp
 go_ret2
 have hb2:Below v1.heap.size v1 (v2.alloc (.cells (trA ab (.slice (some ⟨v1.heap.size,0,none⟩) 1 1)) 92)):=tb_ hbL hbT
 have hs:=hB.size
 have hA1:=hA.1
 refine ⟨v1.heap.size+1,fun i=>Fa i\/i=v1.heap.size\/i=v1.heap.size+1,rfl,⟨fun i hi=>?_,Fa,ab,.slice (some ⟨v1.heap.size,0,none⟩) 1 1,hT,hA.below hb2,⟨rfl,.inr ⟨v1.heap.size,1,_,rfl,Nat.zero_le _,qd_ hbT hL1 (Has.lt hL1),Nat.le_refl _,by decide,rfl,rfl⟩⟩,Lp.one,.inr (.inr rfl),fun i hi=>.inl hi,fun i hi=>?_,fun hf=>?_,fun i hi hf=>?_⟩,fun i hi=>?_,hB.trans (hb2.mono hs)⟩
 ·show i<(v2.alloc (.cells (trA ab (.slice (some ⟨v1.heap.size,0,none⟩) 1 1)) 92)).heap.size
  rcases hi with hi|rfl|rfl
  ·have:=hA1 i hi;omega
  ·omega
  ·omega
 ·exact .inr (.inl (Option.some.inj hi).symm)
 ·have:=hA1 _ hf;omega
 ·have h1:v1.heap.size=i:=Option.some.inj hi
  have:=hA1 _ hf;omega
 ·rcases hi with hi|rfl|rfl
  ·exact hF0 i hi
  ·exact hs
  ·omega
theorem qaft_ (tp ap:Value) (h:Hd) (ho:h.ok) (now x1 x2 x3:Int) (X:World->World->Prop) (w:World)
  (KH:Hid (HeldIs w tp ap)) (KAdd:Hid (∀w',Below w.heap.size w w'->Calls Tryz.prog 43 #[ap,.agg (hdA h),.int .i64 now] w' fun e w''=>e = .returned (.tuple #[.int .i64 x1,.int .i64 x2,.int .i64 x3])/\X w' w'')) (hx:(x3==0)=false) :
  Calls Tryz.prog 27 #[tp,.agg (hdA h),.int .i64 now] w fun e w'=>e = .returned (.tuple #[.int .i64 x1,.int .i64 x2,.int .i64 x3])/\∃ vx,Below w.heap.size w vx/\X vx w':=by
 have za:=qs_ ho
 go_enter Tryz.func27,Tryz.ntmps27
 go_upto_region 1 with fail
 generalize hw0:World.alloc _ _=v0
 have hB:Below w.heap.size w v0:=bl_ hw0
 have hH:HdAt v0 w.heap.size h:=by rw[<-hw0];exact Has.new _ _
 clear hw0
 obtain ⟨bH,hbH⟩:∃ x,x=w.heap.size:=⟨_,rfl⟩
 rw[<-hbH] at hH |-
 clear hbH
 refine qi_ (by kernel_rfl) (fun _=>True) (fun i v' _=>TaR tp ap h now x1 x2 x3 i v') (fun l _ w'=>Ph 4 (fun w'=>Below w.heap.size w w'/\HdAt w' bH h) (fun w'=>∃ vx,Below w.heap.size w vx/\X vx w') l w') (fun _ _=>True) (fun _ _=>trivial) (fun _ _ _ _ _ _ h=>h) (by kernel_rfl) trivial ?_ ?_ ?_
 ·exact fun l hl=>Ph.zero hl ⟨hB.trans ((Below.refl _ _).drew.mono hB.size),Has.drew hH⟩
 ·intro i o listed a wx ho' hnl hdep hinv
  have hC:=hinv.c
  have hI:=hinv.i
  have hi:i<12:=(Array.getElem?_eq_some_iff.1 ho').1
  obtain rfl|rfl|rfl|rfl|rfl|rfl|rfl|rfl|rfl|rfl|rfl|rfl:i=0\/i=1\/i=2\/i=3\/i=4\/i=5\/i=6\/i=7\/i=8\/i=9\/i=10\/i=11:=by omega
  all_goals obtain rfl:=Option.some.inj ho'
  ·have hsz:=hz_ hinv 0
   exact dv_ 0 hinv (qa_ rfl) (NN.qk_ rfl) (hinv.old' 0) (hI.keep hsz (by decide))
  ·have hsz:=hz_ hinv 1
   have hnK:=ah_ hinv hnl 4
   have hpre:=hI.pre hnK hsz (by decide)
   exact dC_ (S:=T2_) 1 hinv (qa_ rfl) (f:=38) (args:=#[a.eval (.tmp 15)]) (by kernel_rfl) (by rw[show a.eval (.tmp 15)=_ from (gd_ hinv hdep 0 15)];  exact KH.out wx hpre.1) (fun w' hb=>⟨trivial,trivial,rfl,Ph.made hnK (⟨tb_ hpre.1 hb,hpre.2.on hb⟩)⟩)
  ·have hsz:=hz_ hinv 2
   have hnK:=ah_ hinv hnl 4
   have hpre:=hI.pre hnK hsz (by decide)
   exact dv_ 2 hinv (qa_ rfl) (qch_ rfl (hinv.old' 4) hpre.2 za) rfl (hI.keep hsz (by decide))
  ·have hsz:=hz_ hinv 3
   exact dv_ 3 hinv (qa_ rfl) (NN.qk_ rfl) (hinv.old' 2) (hI.keep hsz (by decide))
  ·have hsz:=hz_ hinv 4
   have hpre:=hI.1 hnl
   exact dA_ (S:=T2_) 4 hinv (qa_ rfl) (f:=43) (args:=#[a.eval (.tmp 16),a.eval (.tmp 17),a.eval (.tmp 18)]) (by kernel_rfl) (by
    rw[show a.eval (.tmp 16)=_ from (gd_ hinv hdep 1 16),show a.eval (.tmp 17)=_ from (gd_ hinv hdep 2 17),show a.eval (.tmp 18)=_ from (gd_ hinv hdep 3 18)]
    refine (KAdd.out wx hpre.1).mono ?_
    rintro r w' ⟨rfl,hX⟩
    exact ⟨_,rfl,trivial,trivial,rfl,Ph.last hsz ⟨wx,hpre.1,hX⟩⟩)
  ·have hsz:=hz_ hinv 5
   exact dv_ 5 hinv (qa_ rfl) (NN.qk_ rfl) (gd_ hinv hdep 4 19) (hI.keep hsz (by decide))
  ·have hsz:=hz_ hinv 6
   exact dv_ 6 hinv (qa_ rfl) (NN.qac_ rfl (gd_ hinv hdep 5 14) rfl) rfl (hI.keep hsz (by decide))
  ·have hsz:=hz_ hinv 7
   exact dv_ 7 hinv (qa_ rfl) (NN.qac_ rfl (gd_ hinv hdep 5 14) rfl) rfl (hI.keep hsz (by decide))
  ·have hsz:=hz_ hinv 8
   exact dv_ 8 hinv (qa_ rfl) (NN.qac_ rfl (gd_ hinv hdep 5 14) rfl) rfl (hI.keep hsz (by decide))
  ·have hsz:=hz_ hinv 9
   exact dv_ 9 hinv (qa_ rfl) (NN.qah_ rfl) (gd_ hinv hdep 6 20) (hI.keep hsz (by decide))
  ·have hsz:=hz_ hinv 10
   exact dv_ 10 hinv (qa_ rfl) (NN.qah_ rfl) (gd_ hinv hdep 7 21) (hI.keep hsz (by decide))
  ·have hsz:=hz_ hinv 11
   exact dv_ 11 hinv (qa_ rfl) (NN.qah_ rfl) (gd_ hinv hdep 8 22) (hI.keep hsz (by decide))
 intro listed a' v1 hall hinv
 obtain ⟨vx,hBx,hX⟩:=hinv.i.2 (hall 4 (by decide))
 have e9:a'.eval (.tmp 9) = .int .i64 x1:=hinv.got 9 _ 9 rfl (hall 9 (by decide)) rfl
 have e10:a'.eval (.tmp 10) = .int .i64 x2:=hinv.got 10 _ 10 rfl (hall 10 (by decide)) rfl
 have e11:a'.eval (.tmp 11) = .int .i64 x3:=hinv.got 11 _ 11 rfl (hall 11 (by decide)) rfl
 have e0:a'.eval (.tmp 0)=tp:=hinv.old' 0
 obtain ⟨u,hu⟩:∃ u:Nat->Value,∀ t,u t=a'.eval (.tmp t):=⟨_,fun _=>rfl⟩
 rw[qav_ a' 59 u hinv.tsize hinv.defers hu]
 rw[<-hu] at e0 e9 e10 e11
 clear hu hinv hall
 simp only[List.range,List.range.loop,List.map_cons,List.map_nil]
 rw[e0,e9,e10,e11]
 clear e0 e9 e10 e11
 clear hB hH KH KAdd
 go_wp2_with fail
 go_ret3
 exact ⟨rfl,vx,hBx,hX⟩
theorem qafu_ (b:Nat) (ap:Value) (h:Hd) (ho:h.ok) (now x1 x2 x3:Int) (X:World->World->Prop) (w:World)
  (KH:Hid (HeldIs w (.pointer (some ⟨b,0,none⟩)) ap)) (KAdd:Hid (∀w',Below w.heap.size w w'->Calls Tryz.prog 43 #[ap,.agg (hdA h),.int .i64 now] w' fun e w''=>e = .returned (.tuple #[.int .i64 x1,.int .i64 x2,.int .i64 x3])/\X w' w'')) (n:Nat) (hx:(x3==0)=true) (hx2:(x1==(n:Int))=false) (HV:Hid (∀w' w'',Below w.heap.size w w'->X w' w''->∃ a c,w''.cell? ⟨b,1,none⟩=some (.slice a n c))) :
  Calls Tryz.prog 27 #[.pointer (some ⟨b,0,none⟩),.agg (hdA h),.int .i64 now] w fun e w'=>e = .returned (.tuple #[.int .i64 x1,.int .i64 x2,.int .i64 x3])/\∃ vx,Below w.heap.size w vx/\X vx w':=by
 have za:=qs_ ho
 go_enter Tryz.func27,Tryz.ntmps27
 go_upto_region 1 with fail
 generalize hw0:World.alloc _ _=v0
 have hB:Below w.heap.size w v0:=bl_ hw0
 have hH:HdAt v0 w.heap.size h:=by rw[<-hw0];exact Has.new _ _
 clear hw0
 obtain ⟨bH,hbH⟩:∃ x,x=w.heap.size:=⟨_,rfl⟩
 rw[<-hbH] at hH |-
 clear hbH
 refine qi_ (by kernel_rfl) (fun _=>True) (fun i v' _=>TaR (.pointer (some ⟨b,0,none⟩)) ap h now x1 x2 x3 i v') (fun l _ w'=>Ph 4 (fun w'=>Below w.heap.size w w'/\HdAt w' bH h) (fun w'=>∃ vx,Below w.heap.size w vx/\X vx w') l w') (fun _ _=>True) (fun _ _=>trivial) (fun _ _ _ _ _ _ h=>h) (by kernel_rfl) trivial ?_ ?_ ?_
 ·exact fun l hl=>Ph.zero hl ⟨hB.trans ((Below.refl _ _).drew.mono hB.size),Has.drew hH⟩
 ·intro i o listed a wx ho' hnl hdep hinv
  have hC:=hinv.c
  have hI:=hinv.i
  have hi:i<12:=(Array.getElem?_eq_some_iff.1 ho').1
  obtain rfl|rfl|rfl|rfl|rfl|rfl|rfl|rfl|rfl|rfl|rfl|rfl:i=0\/i=1\/i=2\/i=3\/i=4\/i=5\/i=6\/i=7\/i=8\/i=9\/i=10\/i=11:=by omega
  all_goals obtain rfl:=Option.some.inj ho'
  ·have hsz:=hz_ hinv 0
   exact dv_ 0 hinv (qa_ rfl) (NN.qk_ rfl) (hinv.old' 0) (hI.keep hsz (by decide))
  ·have hsz:=hz_ hinv 1
   have hnK:=ah_ hinv hnl 4
   have hpre:=hI.pre hnK hsz (by decide)
   exact dC_ (S:=T2_) 1 hinv (qa_ rfl) (f:=38) (args:=#[a.eval (.tmp 15)]) (by kernel_rfl) (by rw[show a.eval (.tmp 15)=_ from (gd_ hinv hdep 0 15)];  exact KH.out wx hpre.1) (fun w' hb=>⟨trivial,trivial,rfl,Ph.made hnK (⟨tb_ hpre.1 hb,hpre.2.on hb⟩)⟩)
  ·have hsz:=hz_ hinv 2
   have hnK:=ah_ hinv hnl 4
   have hpre:=hI.pre hnK hsz (by decide)
   exact dv_ 2 hinv (qa_ rfl) (qch_ rfl (hinv.old' 4) hpre.2 za) rfl (hI.keep hsz (by decide))
  ·have hsz:=hz_ hinv 3
   exact dv_ 3 hinv (qa_ rfl) (NN.qk_ rfl) (hinv.old' 2) (hI.keep hsz (by decide))
  ·have hsz:=hz_ hinv 4
   have hpre:=hI.1 hnl
   exact dA_ (S:=T2_) 4 hinv (qa_ rfl) (f:=43) (args:=#[a.eval (.tmp 16),a.eval (.tmp 17),a.eval (.tmp 18)]) (by kernel_rfl) (by
    rw[show a.eval (.tmp 16)=_ from (gd_ hinv hdep 1 16),show a.eval (.tmp 17)=_ from (gd_ hinv hdep 2 17),show a.eval (.tmp 18)=_ from (gd_ hinv hdep 3 18)]
    refine (KAdd.out wx hpre.1).mono ?_
    rintro r w' ⟨rfl,hX⟩
    exact ⟨_,rfl,trivial,trivial,rfl,Ph.last hsz ⟨wx,hpre.1,hX⟩⟩)
  ·have hsz:=hz_ hinv 5
   exact dv_ 5 hinv (qa_ rfl) (NN.qk_ rfl) (gd_ hinv hdep 4 19) (hI.keep hsz (by decide))
  ·have hsz:=hz_ hinv 6
   exact dv_ 6 hinv (qa_ rfl) (NN.qac_ rfl (gd_ hinv hdep 5 14) rfl) rfl (hI.keep hsz (by decide))
  ·have hsz:=hz_ hinv 7
   exact dv_ 7 hinv (qa_ rfl) (NN.qac_ rfl (gd_ hinv hdep 5 14) rfl) rfl (hI.keep hsz (by decide))
  ·have hsz:=hz_ hinv 8
   exact dv_ 8 hinv (qa_ rfl) (NN.qac_ rfl (gd_ hinv hdep 5 14) rfl) rfl (hI.keep hsz (by decide))
  ·have hsz:=hz_ hinv 9
   exact dv_ 9 hinv (qa_ rfl) (NN.qah_ rfl) (gd_ hinv hdep 6 20) (hI.keep hsz (by decide))
  ·have hsz:=hz_ hinv 10
   exact dv_ 10 hinv (qa_ rfl) (NN.qah_ rfl) (gd_ hinv hdep 7 21) (hI.keep hsz (by decide))
  ·have hsz:=hz_ hinv 11
   exact dv_ 11 hinv (qa_ rfl) (NN.qah_ rfl) (gd_ hinv hdep 8 22) (hI.keep hsz (by decide))
 intro listed a' v1 hall hinv
 obtain ⟨vx,hBx,hX⟩:=hinv.i.2 (hall 4 (by decide))
 have e9:a'.eval (.tmp 9) = .int .i64 x1:=hinv.got 9 _ 9 rfl (hall 9 (by decide)) rfl
 have e10:a'.eval (.tmp 10) = .int .i64 x2:=hinv.got 10 _ 10 rfl (hall 10 (by decide)) rfl
 have e11:a'.eval (.tmp 11) = .int .i64 x3:=hinv.got 11 _ 11 rfl (hall 11 (by decide)) rfl
 have e0:a'.eval (.tmp 0)=(.pointer (some ⟨b,0,none⟩)):=hinv.old' 0
 obtain ⟨u,hu⟩:∃ u:Nat->Value,∀ t,u t=a'.eval (.tmp t):=⟨_,fun _=>rfl⟩
 rw[qav_ a' 59 u hinv.tsize hinv.defers hu]
 rw[<-hu] at e0 e9 e10 e11
 clear hu hinv hall
 simp only[List.range,List.range.loop,List.map_cons,List.map_nil]
 rw[e0,e9,e10,e11]
 clear e0 e9 e10 e11
 clear hB hH KH KAdd
 obtain ⟨al,cl,c1⟩:=HV.out vx v1 hBx hX
 go_wp2_with fail
 go_ret3
 exact ⟨rfl,vx,hBx,hX⟩
theorem qafv_ (b ab g n c:Nat) (ap:Value) (h:Hd) (ho:h.ok) (now x2:Int) (X:World->World->Prop) (w:World)
  (KH:Hid (HeldIs w (.pointer (some ⟨b,0,none⟩)) ap)) (KAdd:Hid (∀w',Below w.heap.size w w'->Calls Tryz.prog 43 #[ap,.agg (hdA h),.int .i64 now] w' fun e w''=>e = .returned (.tuple #[.int .i64 (n:Int),.int .i64 x2,.int .i64 0])/\X w' w'')) (ls:List Int) (h9:n<=1000) (E:En) (hE:E.ok) (ua k q y:Int) (HU:Hid (E.up=ua)) (HT:Hid (E.ht=k)) (hne:b ≠ g)
  (HV:Hid (∀w' w'',Below w.heap.size w w'->X w' w''->Has w'' b (trA ab (.slice (some ⟨g,0,none⟩) n c)) 92/\w''.ownsRow 0 3 1 (.slice (some ⟨g,0,none⟩) n c) n (ls.map (Value.int .i64))))
  (KAt:Hid (∀w' w'',Below w.heap.size w w'->X w' w''->∀ w3,Below w''.heap.size w'' w3->Calls Tryz.prog 29 #[.pointer (some ⟨b,0,none⟩),.int .i64 (n:Int)] w3 fun x w4=>x = .returned (.tuple #[.agg (enA E),.bool true])/\Below w3.heap.size w3 w4))
  (KHt:HG_ 44 #[.int .i64 k] (.int .i64 q))
  (KAn0:Hid (∀w' w'',Below w.heap.size w w'->X w' w''->∀ w3,Below w''.heap.size w'' w3->Calls Tryz.prog 30 #[.pointer (some ⟨b,0,none⟩),.int .i64 ua,.int .i64 q] w3 fun x w4=>x = .returned (.int .i64 y)/\Below w3.heap.size w3 w4)) :
  Calls Tryz.prog 27 #[.pointer (some ⟨b,0,none⟩),.agg (hdA h),.int .i64 now] w fun e w'=>e = .returned (.tuple #[.int .i64 (n:Int),.int .i64 x2,.int .i64 0])/\∃ vx v1 v2 v',Below w.heap.size w vx/\X vx v1/\Below v1.heap.size v1 v2/\Kp (fun i=>i=b\/i=g) v2 w'/\Has w' b (trA ab v') 92/\w'.ownsRow 0 3 1 v' (n+1) ((ls ++ [y]).map (Value.int .i64))/\(v'.ownBlock=some g\/∃ g',v'.ownBlock=some g'/\v2.heap.size<=g'):=by
 have za:=qs_ ho
 go_enter Tryz.func27,Tryz.ntmps27
 go_upto_region 1 with fail
 generalize hw0:World.alloc _ _=v0
 have hB:Below w.heap.size w v0:=bl_ hw0
 have hH:HdAt v0 w.heap.size h:=by rw[<-hw0];exact Has.new _ _
 clear hw0
 obtain ⟨bH,hbH⟩:∃ x,x=w.heap.size:=⟨_,rfl⟩
 rw[<-hbH] at hH |-
 clear hbH
 refine qi_ (by kernel_rfl) (fun _=>True) (fun i v' _=>TaR (.pointer (some ⟨b,0,none⟩)) ap h now (n:Int) x2 0 i v') (fun l _ w'=>Ph 4 (fun w'=>Below w.heap.size w w'/\HdAt w' bH h) (fun w'=>∃ vx,Below w.heap.size w vx/\X vx w') l w') (fun _ _=>True) (fun _ _=>trivial) (fun _ _ _ _ _ _ h=>h) (by kernel_rfl) trivial ?_ ?_ ?_
 ·exact fun l hl=>Ph.zero hl ⟨hB.trans ((Below.refl _ _).drew.mono hB.size),Has.drew hH⟩
 ·intro i o listed a wx ho' hnl hdep hinv
  have hC:=hinv.c
  have hI:=hinv.i
  have hi:i<12:=(Array.getElem?_eq_some_iff.1 ho').1
  obtain rfl|rfl|rfl|rfl|rfl|rfl|rfl|rfl|rfl|rfl|rfl|rfl:i=0\/i=1\/i=2\/i=3\/i=4\/i=5\/i=6\/i=7\/i=8\/i=9\/i=10\/i=11:=by omega
  all_goals obtain rfl:=Option.some.inj ho'
  ·have hsz:=hz_ hinv 0
   exact dv_ 0 hinv (qa_ rfl) (NN.qk_ rfl) (hinv.old' 0) (hI.keep hsz (by decide))
  ·have hsz:=hz_ hinv 1
   have hnK:=ah_ hinv hnl 4
   have hpre:=hI.pre hnK hsz (by decide)
   exact dC_ (S:=T2_) 1 hinv (qa_ rfl) (f:=38) (args:=#[a.eval (.tmp 15)]) (by kernel_rfl) (by rw[show a.eval (.tmp 15)=_ from (gd_ hinv hdep 0 15)];  exact KH.out wx hpre.1) (fun w' hb=>⟨trivial,trivial,rfl,Ph.made hnK (⟨tb_ hpre.1 hb,hpre.2.on hb⟩)⟩)
  ·have hsz:=hz_ hinv 2
   have hnK:=ah_ hinv hnl 4
   have hpre:=hI.pre hnK hsz (by decide)
   exact dv_ 2 hinv (qa_ rfl) (qch_ rfl (hinv.old' 4) hpre.2 za) rfl (hI.keep hsz (by decide))
  ·have hsz:=hz_ hinv 3
   exact dv_ 3 hinv (qa_ rfl) (NN.qk_ rfl) (hinv.old' 2) (hI.keep hsz (by decide))
  ·have hsz:=hz_ hinv 4
   have hpre:=hI.1 hnl
   exact dA_ (S:=T2_) 4 hinv (qa_ rfl) (f:=43) (args:=#[a.eval (.tmp 16),a.eval (.tmp 17),a.eval (.tmp 18)]) (by kernel_rfl) (by
    rw[show a.eval (.tmp 16)=_ from (gd_ hinv hdep 1 16),show a.eval (.tmp 17)=_ from (gd_ hinv hdep 2 17),show a.eval (.tmp 18)=_ from (gd_ hinv hdep 3 18)]
    refine (KAdd.out wx hpre.1).mono ?_
    rintro r w' ⟨rfl,hX⟩
    exact ⟨_,rfl,trivial,trivial,rfl,Ph.last hsz ⟨wx,hpre.1,hX⟩⟩)
  ·have hsz:=hz_ hinv 5
   exact dv_ 5 hinv (qa_ rfl) (NN.qk_ rfl) (gd_ hinv hdep 4 19) (hI.keep hsz (by decide))
  ·have hsz:=hz_ hinv 6
   exact dv_ 6 hinv (qa_ rfl) (NN.qac_ rfl (gd_ hinv hdep 5 14) rfl) rfl (hI.keep hsz (by decide))
  ·have hsz:=hz_ hinv 7
   exact dv_ 7 hinv (qa_ rfl) (NN.qac_ rfl (gd_ hinv hdep 5 14) rfl) rfl (hI.keep hsz (by decide))
  ·have hsz:=hz_ hinv 8
   exact dv_ 8 hinv (qa_ rfl) (NN.qac_ rfl (gd_ hinv hdep 5 14) rfl) rfl (hI.keep hsz (by decide))
  ·have hsz:=hz_ hinv 9
   exact dv_ 9 hinv (qa_ rfl) (NN.qah_ rfl) (gd_ hinv hdep 6 20) (hI.keep hsz (by decide))
  ·have hsz:=hz_ hinv 10
   exact dv_ 10 hinv (qa_ rfl) (NN.qah_ rfl) (gd_ hinv hdep 7 21) (hI.keep hsz (by decide))
  ·have hsz:=hz_ hinv 11
   exact dv_ 11 hinv (qa_ rfl) (NN.qah_ rfl) (gd_ hinv hdep 8 22) (hI.keep hsz (by decide))
 intro listed a' v1 hall hinv
 obtain ⟨vx,hBx,hX⟩:=hinv.i.2 (hall 4 (by decide))
 have e9:a'.eval (.tmp 9) = .int .i64 (n:Int):=hinv.got 9 _ 9 rfl (hall 9 (by decide)) rfl
 have e10:a'.eval (.tmp 10) = .int .i64 x2:=hinv.got 10 _ 10 rfl (hall 10 (by decide)) rfl
 have e11:a'.eval (.tmp 11) = .int .i64 0:=hinv.got 11 _ 11 rfl (hall 11 (by decide)) rfl
 have e0:a'.eval (.tmp 0)=(.pointer (some ⟨b,0,none⟩)):=hinv.old' 0
 obtain ⟨u,hu⟩:∃ u:Nat->Value,∀ t,u t=a'.eval (.tmp t):=⟨_,fun _=>rfl⟩
 rw[qav_ a' 59 u hinv.tsize hinv.defers hu]
 rw[<-hu] at e0 e9 e10 e11
 clear hu hinv hall
 simp only[List.range,List.range.loop,List.map_cons,List.map_nil]
 rw[e0,e9,e10,e11]
 clear e0 e9 e10 e11
 clear hB hH KH KAdd
 obtain ⟨hA0,rL0⟩:=HV.out vx v1 hBx hX
 have KA1:=h_ (KAt.out vx v1 hBx hX)
 have KA2:=h_ (KAn0.out vx v1 hBx hX)
 have HQ:=h_ (And.intro hBx hX)
 clear HV KAt KAn0 hBx hX
 have c1:=Has.cell hA0 1
 have hB:=Below.refl v1.heap.size v1
 have t3:((n:Int)==(n:Int))=true:=by simp
 have c1':v1.cell? ⟨b,1,none⟩=some (.slice (some ⟨g,0,none⟩) n c):=c1
 clear c1
 go_wp2_with fail
 refine (KA1.out _ hB).mono ?_
 rintro x v1' ⟨rfl,hb⟩
 replace hB:=tb_ hB hb
 clear hb KA1 c1'
 have hnew:=qbq_ v1'
 have hE1:=qdz_ v1' E
 have ze:=qv_ hE
 have z0:=qv_ enZ_ok
 have hb3:=qcb_ v1' 76 Tryz.zeroCells76 (enA E)
 go_upto_region 4 with (with_reducible refine qbc_ rfl _ _ rfl _ _ E rfl rfl rfl ze hnew z0 ?_)
 generalize World.setRow _ _ _=v2 at *
 obtain ⟨bE,hbE⟩:∃ x,x=v1'.heap.size:=⟨_,rfl⟩
 rw[<-hbE] at hE1 |-
 have hlt1:=Has.lt hA0
 have hlt2:=(row_lt rL0 (i:=g) rfl).1
 have hs1:=hB.size
 have fE:¬(bE=b\/bE=g):=fun h=>by rcases h with h|h <;> omega
 replace hB:=tb_ hB hb3
 have k0:=Kp.of (F:=fun _=>False) hB
 have hA:=k0.has hA0 (fun h=>h)
 have rL:=kp_row rL0 k0 (fun _ _ h=>h)
 have KAn:Hid (∀w3,Below v2.heap.size v2 w3->Calls Tryz.prog 30 #[.pointer (some ⟨b,0,none⟩),.int .i64 ua,.int .i64 q] w3 fun x w4=>x = .returned (.int .i64 y)/\Below w3.heap.size w3 w4):=h_ fun w3 hb=>KA2.out w3 (tb_ hB hb)
 have HNE:Hid (g ≠ b):=h_ fun h=>hne h.symm
 clear hbE hlt1 hlt2 hs1 hb3 hnew k0 hA0 rL0 KA2 hne
 refine qi_ (by kernel_rfl) (fun w'=>Kp (fun i=>i=b\/i=g) v2 w') (fun i v' _=>TgR b bE g n c ua k q y i v') (fun l a w'=>ApI 12 13 16 52 53 v2.heap.size 3 92 1 (fun cs=>cs=#[.int .i64 y]) (.slice (some ⟨g,0,none⟩) n c) n (ls.map (Value.int .i64)) b (fun u=>trA ab u) l a w'/\Ph 13 (fun w'=>Below v2.heap.size v2 w') (fun _=>True) l w') (fun _ _=>True) (fun _ _=>trivial) (fun _ _ _ _ _ _ h=>h) (by kernel_rfl) (Kp.of (Below.refl _ _).drew) ?_ ?_ ?_
 ·exact fun l hl=>⟨ApI.zero hl (kp_row rL (Kp.of (F:=fun _=>False) (Below.refl _ _).drew) (fun _ _ h=>h)) (Has.drew hA),Ph.zero hl (Below.refl _ _).drew⟩
 ·intro i o listed a wx ho' hnl hdep hinv
  have hC:=hinv.c
  have hI:=hinv.i
  have hi:i<17:=(Array.getElem?_eq_some_iff.1 ho').1
  have hEx:EnAt wx bE E:=hC.has hE1 fE
  have hlx:v2.heap.size<=wx.heap.size:=hC.size
  obtain rfl|rfl|rfl|rfl|rfl|rfl|rfl|rfl|rfl|rfl|rfl|rfl|rfl|rfl|rfl|rfl|rfl:i=0\/i=1\/i=2\/i=3\/i=4\/i=5\/i=6\/i=7\/i=8\/i=9\/i=10\/i=11\/i=12\/i=13\/i=14\/i=15\/i=16:=by omega
  all_goals obtain rfl:=Option.some.inj ho'
  ·have hsz:=hz_ hinv 0
   exact dv_ 0 hinv (qa_ rfl) (NN.qk_ rfl) (hinv.old' 0) ⟨hI.1.keep hsz (by decide) (by decide) (by decide) _ _ (by decide) (by decide),hI.2.keep hsz (by decide)⟩
  ·have hsz:=hz_ hinv 1
   exact dv_ 1 hinv (qa_ rfl) (NN.qk_ rfl) (hinv.old' 0) ⟨hI.1.keep hsz (by decide) (by decide) (by decide) _ _ (by decide) (by decide),hI.2.keep hsz (by decide)⟩
  ·have hsz:=hz_ hinv 2
   exact dv_ 2 hinv (qa_ rfl) (ex_nil rfl (gd_ hinv hdep 1 41)) rfl ⟨hI.1.keep hsz (by decide) (by decide) (by decide) _ _ (by decide) (by decide),hI.2.keep hsz (by decide)⟩
  ·have hsz:=hz_ hinv 3
   exact dv_ 3 hinv (qa_ rfl) (qaj_ rfl (gd_ hinv hdep 2 42) (tfield1 wx b)) rfl ⟨hI.1.keep hsz (by decide) (by decide) (by decide) _ _ (by decide) (by decide),hI.2.keep hsz (by decide)⟩
  ·have hsz:=hz_ hinv 4
   have hks:=ah_ hinv hnl 16
   have hAx:=hI.1.ha (by rw[<-qn_ listed 4 16 hsz (by decide)];exact hks)
   exact dv_ 4 hinv (qa_ rfl) (qct_ rfl (gd_ hinv hdep 3 43) (ld_ints (Has.cell hAx 1))) rfl ⟨hI.1.keep hsz (by decide) (by decide) (by decide) _ _ (by decide) (by decide),hI.2.keep hsz (by decide)⟩
  ·have hsz:=hz_ hinv 5
   exact dv_ 5 hinv (qa_ rfl) (NN.qk_ rfl) (hinv.old' 0) ⟨hI.1.keep hsz (by decide) (by decide) (by decide) _ _ (by decide) (by decide),hI.2.keep hsz (by decide)⟩
  ·have hsz:=hz_ hinv 6
   exact dv_ 6 hinv (qa_ rfl) (qaj_ rfl (hinv.old' 12) (efield2 wx bE)) rfl ⟨hI.1.keep hsz (by decide) (by decide) (by decide) _ _ (by decide) (by decide),hI.2.keep hsz (by decide)⟩
  ·have hsz:=hz_ hinv 7
   exact dv_ 7 hinv (qa_ rfl) (NN.qbf_ rfl (gd_ hinv hdep 6 46) (EnAt.up hEx hE HU)) rfl ⟨hI.1.keep hsz (by decide) (by decide) (by decide) _ _ (by decide) (by decide),hI.2.keep hsz (by decide)⟩
  ·have hsz:=hz_ hinv 8
   exact dv_ 8 hinv (qa_ rfl) (qaj_ rfl (hinv.old' 12) (efield3 wx bE)) rfl ⟨hI.1.keep hsz (by decide) (by decide) (by decide) _ _ (by decide) (by decide),hI.2.keep hsz (by decide)⟩
  ·have hsz:=hz_ hinv 9
   exact dv_ 9 hinv (qa_ rfl) (NN.qbf_ rfl (gd_ hinv hdep 8 48) (EnAt.ht hEx hE HT)) rfl ⟨hI.1.keep hsz (by decide) (by decide) (by decide) _ _ (by decide) (by decide),hI.2.keep hsz (by decide)⟩
  ·have hsz:=hz_ hinv 10
   have hnK:=ah_ hinv hnl 13
   have hpre:=hI.2.pre hnK hsz (by decide)
   exact dC_ (S:=T2_) 10 hinv (qa_ rfl) (f:=44) (args:=#[a.eval (.tmp 49)]) (by kernel_rfl) (by rw[show a.eval (.tmp 49)=_ from (gd_ hinv hdep 9 49)];  exact KHt.out wx) (fun w' hb=>⟨hC.trans (Kp.of (F:=fun i=>i=b\/i=g) hb) (fun i hi _=>hi),trivial,rfl,(hI.1.on hb).keep hsz (by decide) (by decide) (by decide) _ _ (by decide) (by decide),Ph.made hnK (tb_ hpre hb)⟩)
  ·have hsz:=hz_ hinv 11
   have hnK:=ah_ hinv hnl 13
   have hpre:=hI.2.pre hnK hsz (by decide)
   exact dC_ (S:=T2_) 11 hinv (qa_ rfl) (f:=30) (args:=#[a.eval (.tmp 45),a.eval (.tmp 47),a.eval (.tmp 50)]) (by kernel_rfl) (by rw[show a.eval (.tmp 45)=_ from (gd_ hinv hdep 5 45)];rw[show a.eval (.tmp 47)=_ from (gd_ hinv hdep 7 47)];rw[show a.eval (.tmp 50)=_ from (gd_ hinv hdep 10 50)];  exact KAn.out wx hpre) (fun w' hb=>⟨hC.trans (Kp.of (F:=fun i=>i=b\/i=g) hb) (fun i hi _=>hi),trivial,rfl,(hI.1.on hb).keep hsz (by decide) (by decide) (by decide) _ _ (by decide) (by decide),Ph.made hnK (tb_ hpre hb)⟩)
  ·have hsz:=hz_ hinv 12
   have hka:=ah_ hinv hnl 13
   have hks:=ah_ hinv hnl 16
   have hnK:=ah_ hinv hnl 13
   have hpre:=hI.2.pre hnK hsz (by decide)
   have hb:Below wx.heap.size wx (wx.alloc _):=(Below.refl _ _).alloc (Nat.le_refl _) (.cells #[.int .i64 y] 3)
   exact dm_ 12 hinv (qa_ rfl) (NN.Rg2.qbx_ rfl (gd_ hinv hdep 11 51) (qdw_ wx y)) (hC.trans (Kp.of (F:=fun i=>i=b\/i=g) hb) (fun i hi _=>hi)) rfl ⟨hI.1.built hsz hka hks (by decide) (by decide) (by rw[hinv.tsize];exact (show 52<59 by decide)) rfl,Ph.made hnK (tb_ hpre hb)⟩
  ·have hsz:=hz_ hinv 13
   have hks:=ah_ hinv hnl 16
   have hkb:listed.getD 12 false=true:=hdep ⟨12,.data⟩ (by simp) rfl
   obtain ⟨gg,cs,rfl,hg,hgh⟩:=hI.1.bu hkb hnl
   obtain ⟨v',w',hr,g1,g2,g3⟩:=qcm_ (ρ:=a.eval) (x:=.tmp 44) (y:=.tmp 52) (Ts:=42) Tryz.underlying42 qgz_ (by decide) (by decide) rfl (by intro u hu;simp at hu;subst hu;rfl) (gd_ hinv hdep 4 44) (hI.1.ro hnl) hg hgh h9
   exact dm_ 13 hinv (qa_ rfl) (hr _ rfl rfl) (hC.trans (Kp.gb (F:=fun i=>i=b\/i=g) g2 (fun k hk=>.inr (Option.some.inj hk).symm)) (fun i hi _=>hi)) rfl ⟨hI.1.appended hsz hks (by decide) (by rw[hinv.tsize];exact (show 53<59 by decide)) rfl g1 g2 g3 hlx (fun e=>HNE.out (Option.some.inj e)),Ph.last hsz trivial⟩
  ·have hsz:=hz_ hinv 14
   exact dv_ 14 hinv (qa_ rfl) (ex_nil rfl (gd_ hinv hdep 0 40)) rfl ⟨hI.1.keep hsz (by decide) (by decide) (by decide) _ _ (by decide) (by decide),hI.2.keep hsz (by decide)⟩
  ·have hsz:=hz_ hinv 15
   exact dv_ 15 hinv (qa_ rfl) (qaj_ rfl (gd_ hinv hdep 14 54) (tfield1 wx b)) rfl ⟨hI.1.keep hsz (by decide) (by decide) (by decide) _ _ (by decide) (by decide),hI.2.keep hsz (by decide)⟩
  ·have hsz:=hz_ hinv 16
   have hka:listed.getD 13 false=true:=hdep ⟨13,.data⟩ (by simp) rfl
   obtain ⟨v',cs,rfl,hv',hr',hl'⟩:=hI.1.ap hka hnl
   obtain ⟨g',c',rfl⟩:=qbw_ hr' (Nat.succ_pos _)
   have hAx:=hI.1.ha hnl
   have kb:Kp (fun i=>i=b) wx (wx.setCell ⟨b,1,none⟩ (.slice (some ⟨g',0,none⟩) (n+1) c')):=Kp.gb (qby_ wx b 1 _) (fun k hk=>(Option.some.inj hk).symm)
   exact ds_ 16 hinv (qa_ rfl) (qcd_ rfl (gd_ hinv hdep 15 55) hv' (qhh_ (Has.free hAx 1) (Has.cell hAx 1))) (hC.trans kb (fun i hi _=>.inl hi)) rfl ⟨ApI.stored hsz (by decide) hka rfl (tr_set hAx _) (kp_row hr' kb (fun i hi e=>by
    obtain ⟨_,k⟩:=qbk_ hr' hi
    exact qaz_ k hAx.out (by decide) e)) hl',⟨fun h=>(by rw[qn_ listed 16 13 hsz (by decide),hka] at h;cases h),fun _=>trivial⟩⟩
 intro listed a' v5 hall hinv
 have hC:=hinv.c
 obtain ⟨v',cs,rfl,hA',rL',hl'⟩:=hinv.i.1.st (hall 16 (by decide))
 have e9:a'.eval (.tmp 9) = .int .i64 (n:Int):=hinv.old' 9
 have e10:a'.eval (.tmp 10) = .int .i64 x2:=hinv.old' 10
 have e11:a'.eval (.tmp 11) = .int .i64 0:=hinv.old' 11
 obtain ⟨u,hu⟩:∃ u:Nat->Value,∀ t,u t=a'.eval (.tmp t):=⟨_,fun _=>rfl⟩
 rw[qav_ a' 59 u hinv.tsize hinv.defers hu]
 rw[<-hu] at e9 e10 e11
 clear hu hinv hall
 simp only[List.range,List.range.loop,List.map_cons,List.map_nil]
 rw[e9,e10,e11]
 clear e9 e10 e11
 go_wp2_with fail
 go_ret3
 exact ⟨rfl,vx,HQ.out.1,v1,HQ.out.2,v2,hB,hC,v',hA',rL',hl'⟩
end Go.Proofs.YtcppnfkjklhhdaaGreatDoor.An
namespace Go.Proofs.YtcppnfkjklhhdaaGreatDoor.An
open Go.RowKit Mem Sc
open Ar (Ent Ru entZ Ok Lp hgt Up isP IsAn)
theorem qyz_ (r:Ru) (M:List Ent) (h:Hd) (now:Int) :
  (¬(Ar.add r M h now).1.2.2=0/\(Ar.add r M h now).2=M) \/
  ((Ar.add r M h now).1.2.2=0/\(∃i:Nat,(Ar.add r M h now).1.1=(i:Int)/\i<M.length)/\(Ar.add r M h now).2=M) \/
  ((Ar.add r M h now).1=(((M.length:Nat):Int),(0:Int),(0:Int))/\∃ (j:Nat) (d:Ent),M[j]?=some d/\(Ar.add r M h now).2=M ++ [⟨d.hs ++ [h],(j:Int)⟩]):=by
 unfold Ar.add
 by_cases hP:h.P
 ·rw[if_neg (fun hh=>hh hP)]
  cases h1:Ar.fnd r.g M h.id with
  | some i=>
   obtain ⟨e,he,_⟩:=Ar.qee_ h1
   exact .inr (.inl ⟨rfl,⟨i,rfl,(List.getElem?_eq_some_iff.1 he).1⟩,rfl⟩)
  | none=>
   cases h2:Ar.fnd r.g M h.prev with
   | none=>exact .inl ⟨by simp,rfl⟩
   | some j=>
    simp only
    obtain ⟨d,hd,_⟩:=Ar.qee_ h2
    by_cases h3:Ar.why r (M.getD j entZ) h now=0
    ·rw[if_neg (fun hh=>hh h3)]
     by_cases h4:r.room<=M.length
     ·rw[if_pos h4];exact .inl ⟨by simp,rfl⟩
     ·rw[if_neg h4]
      refine .inr (.inr ⟨rfl,j,d,hd,?_⟩)
      rw[show M.getD j entZ=d by rw[List.getD_eq_getElem?_getD,hd];rfl]
    ·rw[if_pos h3];exact .inl ⟨by simp,rfl⟩
 ·rw[if_pos hP];exact .inl ⟨by simp,rfl⟩
theorem qjd_ {w vx w':World} {F Fa:Nat->Prop} {b ab:Nat} {lv:Value} {r:Ru} {M':List Ent} {ls:List Int} (hF:∀ i,F i->i<w.heap.size) (h1:Has w b (trA ab lv) 92) (h3:w.ownsRow 0 3 1 lv ls.length (ls.map (Value.int .i64))) (h4:Lp M' ls) (h5:F b) (h6:∀ i,Fa i->F i) (h7:∀ i,lv.ownBlock=some i->F i) (h8:¬Fa b) (h9:∀ i,lv.ownBlock=some i->¬Fa i)
  (hb:Below w.heap.size w vx) (hA:ArS w' (Nxt Fa vx w') ab r M') (hK:Kp Fa vx w'):TrS w' (Nxt F w w') b r M' ls/\Kp F w w':=by
 have k0:Kp Fa w w':=(Kp.of hb).trans hK fun i hi _=>hi
 have hs:=hb.size
 have hlt:=Has.lt h1
 refine ⟨⟨nxt_lt hF k0.size,Nxt Fa vx w',ab,lv,k0.has h1 h8,hA,kp_row h3 k0 h9,h4,.inl h5,fun i hi=>?_,fun i hi=>.inl (h7 i hi),fun hn=>?_,fun i hi hn=>?_⟩,k0.mono fun i hi _=>h6 i hi⟩
 ·exact hi.elim (fun h=>.inl (h6 i h)) (fun h=>.inr ⟨Nat.le_trans hs h.1,h.2⟩)
 ·exact hn.elim h8 (fun h=>by omega)
 ·have:=(row_lt h3 hi).1
  exact hn.elim (h9 i hi) (fun h=>by omega)
theorem tadd_at {w:World} {F:Nat->Prop} {b:Nat} {r:Ru} {M:List Ent} {ls:List Int} (hS:TrS w F b r M ls) (hM:Ok r M) (hl:M.length<=800) (hls:ls.length=M.length) (hgl:r.gs.length<=1000) (hcl:r.cs.length<=1000) (hT:Tab w) (h:Hd) (ho:h.ok) (now:Int) :
  Calls Tryz.prog 27 #[.pointer (some ⟨b,0,none⟩),.agg (hdA h),.int .i64 now] w fun e w'=>e = .returned (.tuple #[.int .i64 (Ar.add r M h now).1.1,.int .i64 (Ar.add r M h now).1.2.1,.int .i64 (Ar.add r M h now).1.2.2])/\(∃ls',ls'.length=(Ar.add r M h now).2.length/\TrS w' (Nxt F w w') b r (Ar.add r M h now).2 ls')/\Kp F w w':=by
 have hpos:=hM.pos
 have hOk:=hM.add ho now
 obtain ⟨gg,cc,hL⟩:=hS.leaps (by omega)
 have hS':=hS
 obtain ⟨hF,Fa,ab,lv,h1,h2,h3,h4,h5,h6,h7,h8,h9⟩:=hS'
 have hlv:lv = .slice (some ⟨gg,0,none⟩) ls.length cc:=by
  have e1:=hL.1
  have e2:w.cell? ⟨b,1,none⟩=some lv:=Has.cell h1 1
  rw[e1] at e2
  exact (Option.some.inj e2).symm
 have hbl:=Has.lt h1
 have KH:Hid (HeldIs w (.pointer (some ⟨b,0,none⟩)) (.pointer (some ⟨ab,0,none⟩))):=h_ fun w' hb=>held_w b ab w' ((hb.cell (p:=⟨b,0,none⟩) hbl).trans (Has.cell h1 0))
 have KA:=fun (w':World) (hb:Below w.heap.size w w')=>add_at (h2.below hb) hM (by omega) hgl hcl (hT.below hb) h ho now
 rcases qyz_ r M h now with ⟨c1,c2⟩|⟨c1,⟨i,c2,c3⟩,c4⟩|⟨c1,j,d,c2,c3⟩
 ·obtain ⟨⟨x1,x2,x3⟩,hx⟩:∃ x,x=(Ar.add r M h now).1:=⟨_,rfl⟩
  rw[<-hx] at c1 KA |-
  rw[c2] at KA |-
  refine (qaft_ _ _ h ho now x1 x2 x3 (fun w' w''=>ArS w'' (Nxt Fa w' w'') ab r M/\Kp Fa w' w'') w KH (h_ KA) (by simpa using c1)).mono ?_
  rintro e w' ⟨rfl,vx,q1,q2,q3⟩
  obtain ⟨u1,u2⟩:=qjd_ hF h1 h3 h4 h5 h6 h7 h8 h9 q1 q2 q3
  exact ⟨rfl,⟨ls,hls,u1⟩,u2⟩
 ·obtain ⟨⟨x1,x2,x3⟩,hx⟩:∃ x,x=(Ar.add r M h now).1:=⟨_,rfl⟩
  rw[<-hx] at c1 c2 KA |-
  rw[c4] at KA |-
  simp only at c1 c2
  refine (qafu_ b _ h ho now x1 x2 x3 (fun w' w''=>ArS w'' (Nxt Fa w' w'') ab r M/\Kp Fa w' w'') w KH (h_ KA) ls.length (by simpa using c1) (by rw[c2,beq_eq_false_iff_ne];omega) (h_ fun w' w'' hb hX=>?_)).mono ?_
  ·obtain ⟨_,k⟩:=hX
   have h1':=k.has (qd_ hb h1 hbl) h8
   exact ⟨_,_,(Has.cell h1' 1).trans (by rw[hlv];rfl)⟩
  ·rintro e w' ⟨rfl,vx,q1,q2,q3⟩
   obtain ⟨u1,u2⟩:=qjd_ hF h1 h3 h4 h5 h6 h7 h8 h9 q1 q2 q3
   exact ⟨rfl,⟨ls,hls,u1⟩,u2⟩
 ·rw[c3] at hOk KA |-
  rw[c1] at KA |-
  simp only at KA |-
  subst hlv
  have hd:=c2
  obtain ⟨e',he'⟩:∃ e':Ent,e'=⟨d.hs ++ [h],(j:Int)⟩:=⟨_,rfl⟩
  rw[<-he'] at hOk KA |-
  have hel:e'.hs.length=d.hs.length+1:=by rw[he',List.length_append];rfl
  have heu:e'.up=(j:Int):=by rw[he']
  have hnew:(M ++ [e'])[M.length]?=some e':=by rw[List.getElem?_append_right (Nat.le_refl _),Nat.sub_self];rfl
  have hjl:=(List.getElem?_eq_some_iff.1 hd).1
  have hd':(M ++ [e'])[j]?=some d:=by rw[List.getElem?_append_left hjl];exact hd
  have hdc:=(hM.chain j d hd).1
  obtain ⟨y,hy⟩:=Up.there hOk hd' (h:=hgt e'.hs.length) (by have:=Ar.hgt_lt (h:=e'.hs.length) (by omega);omega)
  have hLp':Lp (M ++ [e']) ls:=h4.more [e']
  have hX:∀ (w' w'':World),Below w.heap.size w w'->ArS w'' (Nxt Fa w' w'') ab r (M ++ [e'])/\Kp Fa w' w''->TrS w'' (Nxt F w w'') b r (M ++ [e']) ls/\Kp F w w'':=fun w' w'' hb hX=>qjd_ hF h1 h3 hLp' h5 h6 h7 h8 h9 hb hX.1 hX.2
  have hne:b ≠ gg:=fun e=>h9 gg rfl (by
   obtain ⟨_,k⟩:=qbk_ h3 (i:=gg) rfl
   exact absurd e (qaz_ h1.out k (by decide)))
  have hE:(enOf r e').ok:=by
   have:=hOk.up M.length e' hpos hnew
   obtain ⟨j2,d2,h2',now2,_,_,q3,q4,_,_⟩:=this
   refine ⟨?_,qo_ _⟩
   show (e'.h r.g).ok
   rw[q3,Ar.h_app]
   exact q4
  have hKA:Hid (∀(w':World),Below w.heap.size w w'->Calls Tryz.prog 43 #[.pointer (some ⟨ab,0,none⟩),.agg (hdA h),.int .i64 now] w' fun e w''=>e = .returned (.tuple #[.int .i64 ((ls.length:Nat):Int),.int .i64 0,.int .i64 0])/\ArS w'' (Nxt Fa w' w'') ab r (M ++ [e'])/\Kp Fa w' w''):=h_ (by rw[hls];exact KA)
  refine (qafv_ b ab gg ls.length cc _ h ho now 0 (fun w' w''=>ArS w'' (Nxt Fa w' w'') ab r (M ++ [e'])/\Kp Fa w' w'') w KH hKA ls (by omega) (enOf r e') hE e'.up (e'.hs.length:Nat) ((hgt e'.hs.length:Nat):Int) y (h_ rfl) (h_ rfl) hne (h_ fun w' w'' hb hx=>?_) (h_ fun w' w'' hb hx w3 hb3=>?_) (h_ fun w'=>?_) (h_ fun w' w'' hb hx w3 hb3=>?_)).mono ?_
  ·have k0:Kp Fa w w'':=(Kp.of hb).trans hx.2 fun i hi _=>hi
   exact ⟨k0.has h1 h8,kp_row h3 k0 h9⟩
  ·exact tat_at ((hX w' w'' hb hx).1.below hb3) hnew _ (by rw[hls])
  ·have:=qos_ (e'.hs.length:Nat) (by omega) (by omega) w'
   rwa [Int.toNat_natCast] at this
  ·refine qfh_ ((hX w' w'' hb hx).1.below hb3) hOk (by rw[List.length_append];have:[e'].length=1:=rfl;omega) e'.up _ y (fun _=>by rw[heu];omega) (.inl ⟨by rw[heu];exact Ar.isP_of hd',by omega,?_⟩)
   rw[heu,Int.toNat_natCast]
   exact hy
  ·rintro e w' ⟨rfl,vx,v1,v2,v',q1,q2,q3,q4,q5,q6,q7⟩
   obtain ⟨u1,u2⟩:=hX vx v1 q1 q2
   obtain ⟨q2a,q2k⟩:=q2
   have k0:Kp Fa w v1:=(Kp.of q1).trans q2k fun i hi _=>hi
   have k1:Kp Fa w v2:=k0.trans (Kp.of (F:=fun _=>False) q3) fun _ hi _=>hi.elim
   have hs1:=q1.size
   have hs2:=q2k.size
   have hs3:=q3.size
   have hs4:=q4.size
   have hglt:=(row_lt h3 (i:=gg) rfl).1
   have hA2:=q2a.below q3
   have hA3:ArS w' (Nxt Fa vx v1) ab r (M ++ [e']):=hA2.on q4 fun i hi hh=>by
    rcases hh with rfl|rfl
    ·exact hi.elim h8 (fun h=>by omega)
    ·exact hi.elim (h9 _ rfl) (fun h=>by omega)
   have kF:Kp F w w':=(k1.mono fun i hi _=>h6 i hi).trans q4 fun i hi _=>by
    rcases hi with rfl|rfl
    ·exact h5
    ·exact h7 _ rfl
   refine ⟨by rw[hls],⟨ls ++ [y],by rw[List.length_append,List.length_append,hls];rfl,nxt_lt hF kF.size,Nxt Fa vx v1,ab,v',q5,hA3,?_,hLp'.put (by rw[hls,List.length_append];exact Nat.lt_succ_self _) fun e0 he0 h0=>?_,.inl h5,fun i hi=>?_,fun i hi=>?_,fun hn=>?_,fun i hi hn=>?_⟩,kF⟩
   ·rw[List.length_append]
    exact q6
   ·rw[hls] at he0 |-
    rw[hnew] at he0
    obtain rfl:=Option.some.inj he0
    have hup:=(Up.ahead hOk hnew h0).1
    rw[heu] at hup
    exact hup.trans hy
   ·exact hi.elim (fun h=>.inl (h6 i h)) (fun h=>.inr ⟨by omega,by omega⟩)
   ·rcases q7 with q7|⟨g',q7,q8⟩
    ·rw[q7] at hi
     exact .inl (h7 i hi)
    ·rw[q7] at hi
     have e1:g'=i:=Option.some.inj hi
     have:=(row_lt q6 (i:=g') q7).1
     exact .inr ⟨by omega,by omega⟩
   ·exact hn.elim h8 (fun h=>by omega)
   ·rcases q7 with q7|⟨g',q7,q8⟩
    ·rw[q7] at hi
     have e1:gg=i:=Option.some.inj hi
     exact hn.elim (h9 i hi) (fun h=>by omega)
    ·rw[q7] at hi
     have e1:g'=i:=Option.some.inj hi
     rcases hn with hn|hn
     ·have:=h2.1 i hn
      omega
     ·omega
end Go.Proofs.YtcppnfkjklhhdaaGreatDoor.An
namespace Go.Proofs.YtcppnfkjklhhdaaGreatDoor.An
open Go.RowKit Mem Sc
open Ar (Ent Ru entZ Ok Lp hgt clr Up isP IsAn ComI Row Deep)
set_option maxRecDepth 100000
structure Two (M:List Ent) (i j:Int) (L K:List Int) (k:Nat) (x y:Int):Prop where
 one:Row M i L
 two:Row M j K
 x:L[k]?=some x
 y:K[k]?=some y
 deep:Deep L K k
theorem Two.upx {M:List Ent} {i j:Int} {L K:List Int} {k:Nat} {x y:Int} (h:Two M i j L K k x y):Up M i k x:=⟨L,h.one,h.x⟩
theorem Two.upy {M:List Ent} {i j:Int} {L K:List Int} {k:Nat} {x y:Int} (h:Two M i j L K k x y):Up M j k y:=⟨K,h.two,h.y⟩
theorem Up.in_ {M:List Ent} {i:Int} {L:List Int} (hL:Row M i L) {k:Nat} {x:Int} (h:Up M i k x):L[k]?=some x:=by
 obtain ⟨K,h1,h2⟩:=h
 rw[h1.det hL] at h2;exact h2
theorem Two.pos {r:Ru} {M:List Ent} (hM:Ok r M) {n m:Nat} {d e:Ent} (hn:M[n]?=some d) (hm:M[m]?=some e) {L K:List Int} {k:Nat} {x y:Int} (h:Two M (n:Int) (m:Int) L K k x y) (hne:x ≠ y):0<k:=by
 refine Nat.pos_of_ne_zero fun h0=>hne ?_
 subst h0
 have h1:=h.x.symm.trans (h.one.first hM hn)
 have h2:=h.y.symm.trans (h.two.first hM hm)
 rw[Option.some.inj h1,Option.some.inj h2]
theorem Two.step {M:List Ent} {i j:Int} {L K:List Int} {k:Nat} {x y x' y':Int} (t:Two M i j L K k x y) (hx:Up M x (k - 1) x') (hy:Up M y (k - 1) y') (hne:x ≠ y):Two M i j L K (k - 1) x' y':=by
 have h1:=Up.in_ t.one (t.upx.trans hx)
 have h2:=Up.in_ t.two (t.upy.trans hy)
 exact ⟨t.one,t.two,h1,h2,fun n s q1 q2=>by have:=Deep.unlike t.one t.two t.x t.y hne n s q1 q2;omega⟩
end Go.Proofs.YtcppnfkjklhhdaaGreatDoor.An
namespace Go.Proofs.YtcppnfkjklhhdaaGreatDoor.An
open Go.RowKit Mem Sc NN.Rg2
open Ar (Ent Ru entZ Ok Up isP IsAn ComI Row best)
set_option maxRecDepth 100000
section
variable {w:World} {B:Nat} {F:Nat->Prop} {b:Nat} {r:Ru} {M:List Ent}
theorem RfS.list (h:RfS w B F b r M):∃ a c,w.cell? ⟨b,83,none⟩=some (.slice a M.length c):=by
 obtain ⟨_,_,_,p,t,vH,vI,vA,vW,ws,h3,_⟩:=h
 have rH:=h3.rowH
 have hc:w.cell? ⟨b,83,none⟩=some vH:=by
  rw[Has.cell h3.has 83]
  unfold rfA rfC
  rw[List.getElem?_toArray,List.getElem?_append_right (by rw[qt_ h3.pok];omega),qt_ h3.pok]
  rfl
 rw[List.length_map] at rH
 rcases rH.2 with ⟨rfl,h0⟩|⟨g,c,cur,rfl,_⟩
 ·exact ⟨none,0,by rw[hc,h0]⟩
 ·exact ⟨_,c,hc⟩
end
end Go.Proofs.YtcppnfkjklhhdaaGreatDoor.An
namespace Go.Proofs.YtcppnfkjklhhdaaGreatDoor.An
open Go.RowKit Mem Sc
open Ar (Ent Ru entZ Ok isP IsAn)
theorem qza_ (p:NN.Pr) (t:Tl) (tt:p.tl=t.C) (cs:List Cm) (n:Nat) (a:Option Addr) (c:Nat) (hn:n=cs.length) (hl:n<=4611686018427387904) (gn cn:Nat) (eg:t.gn=gn) (ec:t.cn=cn) (g1 g2 g3 gr g:Bool) (h1:decide ((20:Int)<(gn:Int))=g1) (h2:decide ((20:Int)<(cn:Int))=g2) (h3:decide ((40:Int)<(n:Int))=g3) (hg:(neg cs || g1 || g2 || g3 || !gr)=g) (w:World) (KR:Hid (g1=false->g2=false->g3=false->∀ w',Below w.heap.size w w'->Calls Tryz.prog 24 #[.agg (NN.prA p)] w' fun e w''=>e = .returned (.bool gr)/\Below w'.heap.size w' w'')) (hp:p.ok) (hA:ComesAt w a cs) :
  Calls Tryz.prog 8 #[.agg (NN.prA p),.slice a n c] w fun r w'=>r = .returned (.bool g)/\Below w.heap.size w w':=by
 have HN:=h_ hn
 have HA:=h_ hA
 have HG:=h_ hg
 clear hn hA hg
 go_enter Tryz.func8,Tryz.ntmps8
 go_upto_region 1 with fail
 generalize hw0:World.alloc _ _=v0
 have hB:Below w.heap.size w v0:=bl_ hw0
 have hP:NN.PrAt v0 w.heap.size p:=by rw[<-hw0];exact NN.Has.new _ _
 clear hw0
 obtain ⟨bP,hbP⟩:∃ x,x=w.heap.size:=⟨_,rfl⟩
 rw[<-hbP] at hP |-
 clear hbP
 have H1:=h_ h1
 have H2:=h_ h2
 have H3:=h_ h3
 clear h1 h2 h3
 go_wp2_with fail
 go_loopw [9] (fun i wr=>∃ k:Nat,k<=n/\i = .int .i64 (k:Int)/\Hid (neg cs=neg (cs.drop k))/\NN.PrAt wr bP p/\Below w.heap.size w wr) (fun i _=>n - (intOf i).toNat)
 case atStart=>exact ⟨0,by omega,rfl,h_ rfl,hP,hB⟩
 case round=>
  clear hP hB
  obtain ⟨k,hk,rfl,HZ,hP,hB⟩:=hrel
  by_cases hlt:k<n
  ·obtain ⟨ab,ao,hae,habl,hc⟩:=(HA.out.below hB) (by rw[<-HN.out];omega)
   subst hae
   have hk2:k<cs.length:=by rw[<-HN.out];exact hlt
   have hd:cs.drop k=cs[k] :: cs.drop (k+1):=List.drop_eq_getElem_cons hk2
   obtain ⟨q0,q1⟩:=hc k hk2
   have hx:=HZ.out
   rw[hd] at hx
   clear hd HZ hc
   generalize cs[k]=y at *
   have HX:=h_ hx
   clear hx hk2
   have z1:=qhk_ q0
   have z2:=qja_ q0
   have z0:=qja_ (c:=cmZ) hdZ_ok
   have hb2:Below wr.heap.size wr ((wr.alloc (.cells Tryz.zeroCells64 64)).setRow wr.heap.size (cmA y)):=below_setRow ((Below.refl _ _).alloc (Nat.le_refl _) _) (Nat.le_refl _) _
   have hB2:=tb_ hB hb2
   have hP2:=NN.PrAt.on hP hb2
   have c0:=(qaat_ wr y).now q0
   have hnew:=qul_ wr
   clear hB hb2 hP
   cases t1:decide (y.now<0)
   ·have HZ2:Hid (neg cs=neg (cs.drop (k+1))):=h_ (by
     have e:neg (y :: cs.drop (k+1))=(decide (y.now<0) || neg (cs.drop (k+1))):=rfl
     rw[HX.out,e,t1,Bool.false_or])
    clear HX
    obtain ⟨yn,hyn⟩:∃ yn,yn=y.now:=⟨_,rfl⟩
    rw[<-hyn] at c0 t1
    clear hyn
    go_wp2_with (with_reducible first|refine qff_ rfl _ rfl ab (ao+k*69) rfl y q1 z1 ?_|refine qmn_ rfl _ _ rfl _ _ y rfl rfl rfl z2 hnew z0 ?_)
    go_roundw
    case rel=>exact ⟨k+1,by omega,by go_num,HZ2,hP2,hB2⟩
    case measure=>simp[intOf];omega
   ·have hgt:g=true:=by
     have e:neg (y :: cs.drop (k+1))=(decide (y.now<0) || neg (cs.drop (k+1))):=rfl
     rw[<-HG.out,HX.out,e,t1]
     simp
    subst hgt
    clear HX HG
    obtain ⟨yn,hyn⟩:∃ yn,yn=y.now:=⟨_,rfl⟩
    rw[<-hyn] at c0 t1
    clear hyn
    go_wp2_with (with_reducible first|refine qff_ rfl _ rfl ab (ao+k*69) rfl y q1 z1 ?_|refine qmn_ rfl _ _ rfl _ _ y rfl rfl rfl z2 hnew z0 ?_)
    go_ret
    exact ⟨rfl,hB2⟩
  ·obtain rfl:k=n:=by omega
   have hg:(g1 || g2 || g3 || !gr)=g:=by
    have:=HG.out
    rw[HZ.out,HN.out,List.drop_length] at this
    exact this
   have h1:=H1.out
   have h2:=H2.out
   have h3:=H3.out
   clear HG HZ
   have c5:=qed_ hP tt
   have c6:=qcw_ hP tt
   rw[eg] at c5
   rw[ec] at c6
   have hz:=NN.qat_ hp
   generalize t.ga=ga at *
   generalize t.gc=gc at *
   generalize t.ca=ca at *
   generalize t.cc=cc at *
   have HGG:=h_ hg
   clear eg ec hg H1 H2 H3
   cases g1
   ·cases g2
    ·cases g3
     ·go_wp2_with (with_reducible first|refine NN.qr_ rfl _ rfl _ rfl hP hz ?_|refine NN.qm_ (by with_unfolding_all rfl) _ rfl _ rfl hP hz ?_)
      refine (KR.out (by simp) (by simp) (by simp) _ hB).mono ?_
      rintro e v9 ⟨rfl,hb⟩
      replace hB:=tb_ hB hb
      clear hb
      cases gr
      all_goals
       go_wp2_with fail
       go_ret
       exact ⟨by rw[<-HGG.out];rfl,hB⟩
     ·go_wp2_with fail
      go_ret
      exact ⟨by rw[<-HGG.out];rfl,hB⟩
    ·go_wp2_with fail
     go_ret
     exact ⟨by rw[<-HGG.out];rfl,hB⟩
   ·go_wp2_with fail
    go_ret
    exact ⟨by rw[<-HGG.out];rfl,hB⟩
def grt13 (p:NN.Pr) (t:Tl) (gs:List Gt) (ks:List Ck) (cs:List Cm):Bool:=grt t cs || !ruleP p t.g gs ks
theorem quw_ (p:NN.Pr) (hp:p.ok) (t:Tl) (tt:p.tl=t.C) (ht:t.ok) (gs:List Gt) (ks:List Ck) (hgn:t.gn=gs.length) (hcn:t.cn=ks.length) (cs:List Cm) (n:Nat) (a:Option Addr) (c:Nat) (hn:n=cs.length) (hl:n<=4611686018427387904) (g:Bool) (hg:grt13 p t gs ks cs=g) (w:World) (hA:ComesAt w a cs) (hG:GatesAt w t.ga gs) (hC:ChecksAt w t.ca ks) :
  Calls Tryz.prog 8 #[.agg (NN.prA p),.slice a n c] w fun r w'=>r = .returned (.bool g)/\Below w.heap.size w w':=by
 refine qza_ p t tt cs n a c hn hl t.gn t.cn rfl rfl _ _ _ (ruleP p t.g gs ks) g rfl rfl rfl ?_ w (h_ fun h1 h2 _ w' hb=>?_) hp hA
 ·rw[<-hg,hn]
  unfold grt13 grt neg
  congr 1
  congr 1
  ·congr 1
   ·congr 1
    exact decide_eq_decide.2 (by omega)
   ·exact decide_eq_decide.2 (by omega)
  ·exact decide_eq_decide.2 (by omega)
 ·have:=of_decide_eq_false h1
  have:=of_decide_eq_false h2
  exact quk_ p hp t tt ht gs ks hgn hcn (by omega) (by omega) w' (hG.below hb) (hC.below hb)
theorem tnew_at (p:NN.Pr) (hp:p.ok) (h1:p.one) (t:Tl) (tt:p.tl=t.C) (ht:t.ok) (gs:List Gt) (cs:List Ck) (hgn:t.gn=gs.length) (hcn:t.cn=cs.length) (hgl:t.gn<=1000) (hcl:t.cn<=1000) (room:Int) (hgood:ruleP p t.g gs cs=true) (w:World) (hT:Tab w) (hG:GatesAt w t.ga gs) (hC:ChecksAt w t.ca cs) :
  Calls Tryz.prog 25 #[.agg (NN.prA p),.int .i64 room] w fun r w'=>∃ b F,r = .returned (.tuple #[.pointer (some ⟨b,0,none⟩),.int .i64 0])/\TrS w' F b ⟨p,t.g,gs,cs,clampR room⟩ [entZ] [-1]/\(∀i,F i->w.heap.size<=i)/\Below w.heap.size w w' :=
 tnew_w p hp room _ w (h_ fun w' hb=>new_at p hp h1 t tt ht gs cs hgn hcn hgl hcl room hgood w' (hT.below hb) (hG.below hb) (hC.below hb))
def GrownP (w w':World) (r:Ru) (m:Nat) (bt bm:Nat):Prop:=∃ F Fm M ls,TrS w' F bt r M ls/\RfS w' w.heap.size Fm bm r M/\ls.length=M.length/\Ok r M/\M.length<=m
end Go.Proofs.YtcppnfkjklhhdaaGreatDoor.An
namespace Go.Proofs.YtcppnfkjklhhdaaGreatDoor.Ar
open Go.Proofs.YtcppnfkjklhhdaaGreatDoor.An (plc)
open Ht
def nm (r:Ru) (M:List Ent) (k:Int):List UInt8:=match M[k.toNat]? with|some e=>(e.h r.g).id|none=>z32
theorem nm_at {r:Ru} {M:List Ent} {j:Nat} {e:Ent} (he:M[j]?=some e):nm r M (j:Int)=(e.h r.g).id:=by
 unfold nm
 rw[Int.toNat_natCast,he]
theorem qzb_ (r:Ru) (M:List Ent) (k:Int):(nm r M k).length=32:=by
 unfold nm
 split
 ·exact qo_ _
 ·rfl
def RwT (M:List Ent) (tip:Int) (L:List Int):Prop:=(isP M tip/\Row M tip L)\/(¬isP M tip/\L=[])
theorem RwT.ex {r:Ru} {M:List Ent} (hM:Ok r M) (tip:Int):∃ L,RwT M tip L:=by
 by_cases h:isP M tip
 ·obtain ⟨n,e,rfl,he⟩:=h.is
  obtain ⟨L,hL,_⟩:=hM.row he
  exact ⟨L,.inl ⟨h,hL⟩⟩
 ·exact ⟨[],.inr ⟨h,rfl⟩⟩
theorem RwT.anc {M:List Ent} {tip:Int} {L:List Int} (h:RwT M tip L) (x:Int):Anc M x tip ↔ x ∈ L:=by
 constructor
 ·rintro ⟨K,k1,k2⟩
  rcases h with ⟨_,h⟩|⟨h,rfl⟩
  ·rw[k1.det h] at k2;exact k2
  ·rcases k1.inv with ⟨_,rfl⟩|⟨j,d,_,rfl,hd,_⟩
   ·cases k2
   ·exact absurd (isP_of hd) h
 ·intro hx
  rcases h with ⟨_,h⟩|⟨_,rfl⟩
  ·exact ⟨L,h,hx⟩
  ·cases hx
theorem RwT.place {r:Ru} {M:List Ent} (hM:Ok r M) {tip:Int} {L:List Int} (h:RwT M tip L) {x:Int} (hx:x ∈ L):∃ (n:Nat) (e:Ent),x=(n:Int)/\M[n]?=some e:=by
 obtain ⟨h1,_,h2⟩:=((h.anc x).2 hx).le hM
 exact isP.is ⟨h1,h2⟩
def inRow (r:Ru) (M:List Ent) (L:List Int) (id:List UInt8):Option Int:=L.find? fun k=>nm r M k==id
theorem qafw_ {r:Ru} {M:List Ent} (hM:Ok r M) {tip:Int} {L:List Int} (h:RwT M tip L) (id:List UInt8) (g:Bool) (hg:g=true ↔ Anc M (plc (fnd r.g M id)) tip):inRow r M L id=if g then some (plc (fnd r.g M id)) else none:=by
 unfold inRow
 cases hf:L.find? fun k=>nm r M k==id with
 | some k=>
  have h1:=List.find?_some hf
  have h2:=List.mem_of_find?_eq_some hf
  obtain ⟨n,e,rfl,he⟩:=h.place hM h2
  rw[nm_at he,beq_iff_eq] at h1
  have h3:fnd r.g M id=some n:=by rw[<-h1];exact fnd_at hM he
  rw[h3] at hg |-
  have:g=true:=hg.2 ((h.anc _).2 h2)
  rw[this]
  rfl
 | none=>
  cases g with
  | false=>rfl
  | true=>
   exfalso
   have h1:=(h.anc _).1 (hg.1 rfl)
   obtain ⟨n,e,hn,he⟩:=h.place hM h1
   have h2:=List.find?_eq_none.1 hf _ h1
   apply h2
   rw[beq_iff_eq,hn,nm_at he]
   cases hk:fnd r.g M id with
   | none=>rw[hk] at hn;exact absurd hn (by show (-1:Int) ≠ _;omega)
   | some k=>
    rw[hk] at hn
    obtain ⟨d,hd,hid⟩:=qee_ hk
    have:k=n:=by have:(k:Int)=(n:Int):=hn;omega
    subst this
    rw[hd] at he
    cases he
    exact hid
def fk (r:Ru) (M:List Ent) (L:List Int):List (List UInt8)->Int
 | []=>0
 | id :: t=>match inRow r M L id with|some k=>k|none=>fk r M L t
theorem qkv_ (r:Ru) (M:List Ent) (ids:List (List UInt8)):fk r M [] ids=0:=by
 induction ids with
 | nil=>rfl
 | cons id t ih=>exact ih
theorem fk_yes {r:Ru} {M:List Ent} {L:List Int} {id:List UInt8} {t:List (List UInt8)} {k:Int} (h:inRow r M L id=some k):fk r M L (id :: t)=k:=by
 unfold fk
 rw[h]
theorem fk_no {r:Ru} {M:List Ent} {L:List Int} {id:List UInt8} {t:List (List UInt8)} (h:inRow r M L id=none):fk r M L (id :: t)=fk r M L t:=by
 show (match inRow r M L id with|some k=>k|none=>fk r M L t)=_
 rw[h]
theorem fk_in {r:Ru} {M:List Ent} (hM:Ok r M) {j:Nat} {e:Ent} (he:M[j]?=some e) {L:List Int} (hL:Row M (j:Int) L) (ids:List (List UInt8)):fk r M L ids ∈ L:=by
 induction ids with
 | nil=>exact List.mem_of_getElem? (hL.first hM he)
 | cons id t ih=>
  cases h:inRow r M L id with
  | none=>rw[fk_no h];exact ih
  | some k=>rw[fk_yes h];exact List.mem_of_find?_eq_some h
theorem row_hs {r:Ru} {M:List Ent} (hM:Ok r M) {k:Int} {L:List Int} (hL:Row M k L):∀ {j:Nat} {e:Ent},k=(j:Int)->M[j]?=some e->∀ {i:Nat} {z:Int},L[i]?=some z->∃ (m:Nat) (d:Ent),z=(m:Int)/\M[m]?=some d/\d.hs.length=i/\d.hs=e.hs.take i:=by
 induction hL with
 | nil=>intro j e hk;omega
 | snoc j' d L h1 h2 ih=>
  intro j e hk he i z hz
  obtain rfl:j'=j:=by omega
  rw[h1] at he
  obtain rfl:d=e:=Option.some.inj he
  have hl:=(Row.snoc j' d L h1 h2).len hM h1
  rw[List.length_append,List.length_singleton] at hl
  by_cases hi:i<L.length
  ·rw[List.getElem?_append_left hi] at hz
   rcases hM.ahead h1 with ⟨rfl,rfl⟩|⟨i',a,h,q1,q2,q3,q4⟩
   ·have:L=[]:=List.eq_nil_of_length_eq_zero (by have h0:entZ.hs.length=0:=rfl;omega)
    rw[this] at hi
    simp at hi
   ·obtain ⟨m,d',r1,r2,r3,r4⟩:=ih q3 q2 hz
    refine ⟨m,d',r1,r2,r3,?_⟩
    rw[q4,List.length_append,List.length_singleton] at hl
    rw[r4,q4,List.take_append_of_le_length (by omega)]
  ·have hl2:=(List.getElem?_eq_some_iff.1 hz).1
   rw[List.length_append,List.length_singleton] at hl2
   obtain rfl:i=L.length:=by omega
   rw[List.getElem?_append_right (Nat.le_refl _),Nat.sub_self] at hz
   obtain rfl:(j':Int)=z:=by simpa using hz
   exact ⟨j',d,rfl,h1,by omega,by rw[List.take_of_length_le (by omega)]⟩
theorem row_h {r:Ru} {M:List Ent} (hM:Ok r M) {j:Nat} {e:Ent} (he:M[j]?=some e) {L:List Int} (hL:Row M (j:Int) L) {i:Nat} {z:Int} (hz:L[i]?=some z):∃ (m:Nat) (d:Ent),z=(m:Int)/\M[m]?=some d/\d.hs.length=i/\(r.g :: e.hs)[i]?=some (d.h r.g):=by
 obtain ⟨m,d,h1,h2,h3,h4⟩:=row_hs hM hL rfl he hz
 have hl:=hL.len hM he
 have hi:=(List.getElem?_eq_some_iff.1 hz).1
 refine ⟨m,d,h1,h2,h3,?_⟩
 unfold Ent.h
 rw[h3,h4,List.getD_eq_getElem?_getD]
 have e1:(r.g :: e.hs.take i)[i]?=(r.g :: e.hs)[i]?:=by
  rw[<-List.take_succ_cons,List.getElem?_take,if_pos (Nat.lt_succ_self _)]
 rw[e1,List.getElem?_eq_getElem (by simp;omega)]
 rfl
def loc (r:Ru) (M:List Ent) (L:List Int):List (List UInt8):=(hts 0 (L.length - 1)).map fun h=>nm r M (L.getD h 0)
theorem qes_ (r:Ru) (M:List Ent) (L:List Int):(loc r M L).length=(hts 0 (L.length - 1)).length:=List.length_map ..
theorem loc_32 {r:Ru} {M:List Ent} {L:List Int}:∀ x ∈ loc r M L,x.length=32:=fun x hx=>by
 obtain ⟨k,_,rfl⟩:=List.mem_map.1 hx
 exact qzb_ _ _ _
theorem qafx_ {r:Ru} {M:List Ent} (hM:Ok r M) {j:Nat} {e:Ent} (he:M[j]?=some e) {L:List Int} (hL:Row M (j:Int) L):(loc r M L)[(loc r M L).length - 1]?=some r.g.id:=by
 rw[qes_]
 unfold loc
 rw[List.getElem?_map,qadh_,Option.map_some,List.getD_eq_getElem?_getD,hL.first hM he]
 have:=nm_at (r:=r) hM.zero
 show some (nm r M ((0:Nat):Int))=_
 rw[this]
 rfl
def cutA (stop:List UInt8) (most:Int):Nat->List Hd->List Hd
 | _,[]=>[]
 | n,h :: t=>if most<=(n:Int) then [] else h :: (if h.id=stop then [] else cutA stop most (n+1) t)
theorem qgf_ {stop:List UInt8} {most:Int} {n:Nat} {l:List Hd} (h:most<=(n:Int)):cutA stop most n l=[]:=by
 cases l with
 | nil=>rfl
 | cons x t=>unfold cutA;rw[if_pos h]
theorem qgg_ {stop:List UInt8} {most:Int} {n:Nat} {x:Hd} {t:List Hd} (h:(n:Int)<most) (hs:x.id=stop):cutA stop most n (x :: t)=[x]:=by
 unfold cutA
 rw[if_neg (by omega),if_pos hs]
theorem qou_ {stop:List UInt8} {most:Int} {n:Nat} {x:Hd} {t:List Hd} (h:(n:Int)<most) (hs:¬x.id=stop):cutA stop most n (x :: t)=x :: cutA stop most (n+1) t:=by
 show (if most<=(n:Int) then [] else x :: (if x.id=stop then [] else cutA stop most (n+1) t))=_
 rw[if_neg (by omega),if_neg hs]
theorem qafy_ (stop:List UInt8) (most:Int):∀ (l:List Hd) (n:Nat),(cutA stop most n l).length<=l.length:=by
 intro l
 induction l with
 | nil=>intro n;exact Nat.le_refl _
 | cons x t ih=>
  intro n
  by_cases h:most<=(n:Int)
  ·rw[qgf_ h];exact Nat.zero_le _
  ·by_cases hs:x.id=stop
   ·rw[qgg_ (by omega) hs];simp
   ·rw[qou_ (by omega) hs,List.length_cons,List.length_cons]
    have:=ih (n+1)
    omega
theorem qafz_ (stop:List UInt8) (most:Int):∀ (l:List Hd) (n:Nat),∀ x ∈ cutA stop most n l,x ∈ l:=by
 intro l
 induction l with
 | nil=>intro n x hx;cases hx
 | cons y t ih=>
  intro n x hx
  by_cases h:most<=(n:Int)
  ·rw[qgf_ h] at hx;cases hx
  ·by_cases hs:y.id=stop
   ·rw[qgg_ (by omega) hs] at hx
    obtain rfl:x=y:=by simpa using hx
    exact List.mem_cons_self ..
   ·rw[qou_ (by omega) hs] at hx
    rcases List.mem_cons.1 hx with rfl|hx
    ·exact List.mem_cons_self ..
    ·exact List.mem_cons_of_mem _ (ih (n+1) x hx)
end Go.Proofs.YtcppnfkjklhhdaaGreatDoor.Ar
namespace Go.Proofs.YtcppnfkjklhhdaaGreatDoor.An
open Go.RowKit Mem Sc
open Ar (Ent Ru Ok nm)
section
variable {w:World} {B:Nat} {F:Nat->Prop} {b:Nat} {r:Ru} {M:List Ent}
def IdsAt (w:World) (b g c n:Nat) (r:Ru) (M:List Ent):Prop:=w.cell? ⟨b,84,none⟩=some (.slice (some ⟨g,0,none⟩) n c)/\∀ (k:Nat) (d:Ent),M[k]?=some d->w.rangeAt g (k*32) (Lib.byteCells (d.h r.g).id)
def HdsAt (w:World) (b g c n:Nat) (r:Ru) (M:List Ent):Prop:=w.cell? ⟨b,83,none⟩=some (.slice (some ⟨g,0,none⟩) n c)/\∀ (k:Nat) (d:Ent),M[k]?=some d->(d.h r.g).ok/\w.rangeAt g (k*68) (hdC (d.h r.g))
theorem RfS.ids (h:RfS w B F b r M) (hM:Ok r M):∃ g c,IdsAt w b g c M.length r M:=by
 obtain ⟨_,_,_,p,t,vH,vI,vA,vW,ws,h3,_⟩:=h
 have rI:=h3.rowI
 have hc:=rf84 h3.has h3.pok
 have h32:=h3.name
 clear h3
 have hk:∀ (k:Nat) (d:Ent),M[k]?=some d->(M.map fun e=>(e.h r.g).id)[k]?=some (d.h r.g).id:=fun k d hd=>by rw[List.getElem?_map,hd,Option.map_some]
 have hn:(M.map fun e=>(e.h r.g).id).length=M.length:=List.length_map ..
 generalize (M.map fun e=>(e.h r.g).id)=ids at *
 have key:∀ (k:Nat) (d:Ent),M[k]?=some d->∃ g c,vI = .slice (some ⟨g,0,none⟩) M.length c/\w.rangeAt g (k*32) (Lib.byteCells (d.h r.g).id):=fun k d hd=>by
  have:=qmo_ rI h32 (hk k d hd)
  rwa [hn] at this
 obtain ⟨g,c,rfl,_⟩:=key 0 _ hM.zero
 refine ⟨g,c,hc,fun k d hd=>?_⟩
 obtain ⟨g2,c2,e,hr⟩:=key k d hd
 cases e
 exact hr
theorem RfS.heads (h:RfS w B F b r M) (hM:Ok r M):∃ g c,HdsAt w b g c M.length r M:=by
 obtain ⟨_,_,_,p,t,vH,vI,vA,vW,ws,h3,_⟩:=h
 have rH:=h3.rowH
 have hc:=rf83 h3.has h3.pok
 have hg:=h3.good
 clear h3
 have hk:∀ (k:Nat) (d:Ent),M[k]?=some d->(M.map (Ent.h r.g))[k]?=some (d.h r.g):=fun k d hd=>by rw[List.getElem?_map,hd,Option.map_some]
 have hn:(M.map (Ent.h r.g)).length=M.length:=List.length_map ..
 generalize M.map (Ent.h r.g)=hs at *
 have key:∀ (k:Nat) (d:Ent),M[k]?=some d->∃ g c,vH = .slice (some ⟨g,0,none⟩) M.length c/\w.rangeAt g (k*68) (hdC (d.h r.g)):=fun k d hd=>by
  have:=hds_at rH hg (hk k d hd)
  rwa [hn] at this
 obtain ⟨g,c,rfl,_⟩:=key 0 _ hM.zero
 refine ⟨g,c,hc,fun k d hd=>⟨hg _ (List.mem_of_getElem? (hk k d hd)),?_⟩⟩
 obtain ⟨g2,c2,e,hr⟩:=key k d hd
 cases e
 exact hr
end
theorem IdsAt.below {w w':World} {b g c n:Nat} {r:Ru} {M:List Ent} (h:IdsAt w b g c n r M) (hb:Below w.heap.size w w'):IdsAt w' b g c n r M :=
 ⟨(hb.cell (block_lt_of_cell h.1)).trans h.1,fun k d hd=>qw_ (h.2 k d hd) hb (by rw[qe_ (qo_ _)];decide)⟩
theorem HdsAt.below {w w':World} {b g c n:Nat} {r:Ru} {M:List Ent} (h:HdsAt w b g c n r M) (hb:Below w.heap.size w w'):HdsAt w' b g c n r M :=
 ⟨(hb.cell (block_lt_of_cell h.1)).trans h.1,fun k d hd=>⟨(h.2 k d hd).1,qw_ (h.2 k d hd).2 hb (qcl_ _)⟩⟩
end Go.Proofs.YtcppnfkjklhhdaaGreatDoor.An
namespace Go.Proofs.YtcppnfkjklhhdaaGreatDoor.An
open Go.RowKit Mem Sc
open Ar (Ent Ru entZ Ok isP)
set_option maxRecDepth 100000
def hvb (a b k m:Nat):Bool:=decide (0<NN.Nm.cmp a b) || (NN.Nm.cmp a b==0 && decide (k<m))
section
variable {w:World} {F:Nat->Prop} {b:Nat} {r:Ru} {M:List Ent} {ls:List Int}
end
theorem qaay_ (tp ap:Value) (id:List UInt8) (hid:id.length=32) (z:Int) (w:World) (KH:Hid (HeldIs w tp ap)) (KL:HK_ w 39 #[ap,.agg (bytesV id)] (.int .i64 z)) :
  Ca_ 21 #[tp,.agg (bytesV id)] w (.int .i64 z):=by
 have s1:(bytesV id).size=32:=by rw[qp_];exact hid
 go_enter Tryz.func21,Tryz.ntmps21
 go_upto_region 1 with fail
 generalize hw0:World.alloc _ _=v0
 have hB:Below w.heap.size w v0:=bl_ hw0
 have hI:Has v0 w.heap.size (bytesV id) 28:=by rw[<-hw0];exact Has.new _ _
 clear hw0
 obtain ⟨bI,hbI⟩:∃ b,b=w.heap.size:=⟨_,rfl⟩
 rw[<-hbI] at hI |-
 have q1:∀ w',(∃r:Regrown,w'=Sort.grow (redrawn v0 r.d) r.os)->w'.rangeAt bI 0 (Lib.byteCells id):=fun w' hw'=>qcx_ (qd_ (ql_ w' hw') hI (Has.lt hI))
 have hsl:(Lib.byteCells id).length=32:=qe_ hid
 have hR:∀ d os,Below w.heap.size w (Sort.grow (redrawn v0 d) os):=fun d os=>hB.trans ((below_regrown v0 d os).mono hB.size)
 clear hbI
 refine wp_region_quiet_below (by kernel_rfl) (by kernel_rfl) ?_
 repeat (first
  | (go_big_quiet_want;(with_reducible refine qai_ _ rfl bI 0 rfl id hsl q1 ?_);(simp only[Act.put,List.setIfInBounds_toArray,List.set_cons_zero,List.set_cons_succ]);go_big_quiet_on)
  | go_big_quiet_step ((go_at_call 38;exact Calls.regrown_of (KH.out _ (hR _ _))))
  | go_big_quiet_step ((go_at_call 39;exact Calls.regrown_of (KL.out _ (hR _ _)))))
 refine wpQuiet_nil ?_
 intro v3 hw'
 have hb:=ql_ v3 hw'
 replace hB:=tb_ hB hb
 clear hw' hb q1 hR
 go_wp2_with fail
 go_ret
 exact ⟨rfl,hB⟩
theorem qaga_ {w:World} {F:Nat->Prop} {b:Nat} {r:Ru} {M:List Ent} {ls:List Int} (h:TrS w F b r M ls) (id:List UInt8) (hid:id.length=32):Ca_ 21 #[.pointer (some ⟨b,0,none⟩),.agg (bytesV id)] w (.int .i64 (plc (Ar.fnd r.g M id))):=by
 obtain ⟨Fa,ab,k1,k2⟩:=h.parts
 exact qaay_ _ _ id hid _ w (h_ k1) (h_ fun w' hb=>qkn_ (k2.below hb) id hid)
theorem qov_ (id:List UInt8) (hid:id.length=32) (w:World):Ca_ 21 #[.pointer none,.agg (bytesV id)] w (.int .i64 (-1)):=qaay_ _ _ id hid (-1) w (h_ (HeldIs.nil w)) (h_ fun w' _=>qaex_ id w')
end Go.Proofs.YtcppnfkjklhhdaaGreatDoor.An
