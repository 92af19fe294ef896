import Derived.Test.YtkbjaadjnbgfbaaGreatDoorHBunQ38
set_option maxRecDepth 100000
set_option maxHeartbeats 8000000
namespace Go.Proofs.YtkbjaadjnbgfbaaGreatDoor
namespace An
open Go.RowKit Mem Sc NN.VI
open Ar (av Ru aN)
theorem vV(w:World)(g o:Nat):(Instr.fieldAt 143 (.pointer (some ⟨g,o,none⟩)) 0).run Tryz.prog w=.ok (.pointer (some ⟨g,o,none⟩)) w:=by kernel_rfl
theorem A7(w:World)(g o:Nat):(Instr.fieldAt 60 (.pointer (some ⟨g,o,none⟩)) 4).run Tryz.prog w=.ok (.pointer (some ⟨g,o+102,none⟩)) w:=by kernel_rfl
theorem tx(w:World)(g:Nat):(Instr.fieldAt 30 (af g) 4).run Tryz.prog w=.ok (.pointer (some ⟨g,66,none⟩)) w:=by kernel_rfl
variable{w:World}{g n B z b k:Nat}
theorem MS{ρ:Operand->Value}{o:Oper}{x:Operand}{off:Nat}(ho:o.op=.load 26 x)(hx:ρ x=.pointer (some ⟨g,off,none⟩))(hg:w.rangeAt g off (NN.aa n).toList):(execOp ρ o).run Tryz.prog w=.ok (.value (.agg (NN.aa n))) w:=by have:=lq (P:=Tryz.prog) (ρ:=ρ) (o:=o) (w:=w) 26 ho hx (cs:=(NN.aa n).toList) Tryz.underlying26 rfl (NN.dH.trans (by simp[NN.jE])) hg;rwa[Array.toArray_toList]at this
def dF(B:Nat)(w w':World):Prop:=∀b cs,B<=b->NN.Has w b cs 26->(cs.size≠4->NN.Has w' b cs 26)/\(cs.size=4->∃cs',NN.Has w' b cs' 26/\cs'.size=4)
theorem dF.refl(B:Nat)(w:World):dF B w w:=fun _ cs _ h=>⟨fun _=>h,fun h4=>⟨cs,h,h4⟩⟩
theorem dF.below{w':World}(hb:Bl w w'):dF B w w':=fun _ cs _ h=>⟨fun _=>h.on hb,fun h4=>⟨cs,h.on hb,h4⟩⟩
theorem dF.row{cs:Array Value}(hg:NN.Has w g cs 26)(hs:cs.size=4):dF B w (w.setRow g (NN.aa z)):=fun b cs' _ h=>by
 by_cases e:b=g
 ·subst e
  have e2:cs'=cs:=by
   have h1:=NN.Has.out h;have h2:=NN.Has.out hg;rw[h1]at h2;injection h2 with h2
   injection h2
  subst e2;exact⟨fun h4=>absurd hs h4,fun _=>⟨_,hg.row _,rfl⟩⟩
 exact⟨fun _=>h.Vo _ _ e,fun h4=>⟨cs',h.Vo _ _ e,h4⟩⟩
def Si(B b bH g j n c wk ob z:Nat)(bits:Int):Nat->Value->World->Prop
 | 0,u,_=>u=af b
 | 1,u,_=>u=af b
 | 2,u,_=>u=.pointer (some ⟨b,84,none⟩)
 | 3,u,_=>u=.slice (bs g) n c
 | 4,u,_=>u=i_ j
 | 5,u,_=>u=.pointer (some ⟨g,j*144,none⟩)
 | 6,u,_=>u=.pointer (some ⟨g,j*144,none⟩)
 | 7,u,_=>u=.pointer (some ⟨g,j*144+102,none⟩)
 | 8,u,_=>u=.agg (NN.aa wk)
 | 9,u,_=>u=.pointer (some ⟨bH,66,none⟩)
 | 10,u,_=>u=i_ bits
 | 11,u,_=>u=.agg (NN.aa ob)
 | 12,u,w=>∃b',B<=b'/\u=.slice (bs b') 2 2/\NN.Has w b' (NN.cK [wk,ob]) 26
 | 13,u,_=>u=.agg (NN.aa z)
 | 14,u,w=>∃b' cs,B<=b'/\u=af b'/\NN.Has w b' cs 26/\cs.size=4
 | _,_,_=>b=b
theorem Ux(x y:Nat):(NN.cK [x,y]).size=8:=by simp[NN.cK,NN.jE]
theorem Mi{bH j c wk ob:Nat}{bits:Int}:∀(i:Nat)(u:Value)(w w':World),dF B w w'->Si B b bH g j n c wk ob z bits i u w->Si B b bH g j n c wk ob z bits i u w'
 | 0,_,_,_,_,h|1,_,_,_,_,h|2,_,_,_,_,h|3,_,_,_,_,h|4,_,_,_,_,h|5,_,_,_,_,h|6,_,_,_,_,h|7,_,_,_,_,h|8,_,_,_,_,h|9,_,_,_,_,h|10,_,_,_,_,h|11,_,_,_,_,h|13,_,_,_,_,h=>h
 | 12,_,_,_,hs,⟨b',h1,h2,h3⟩=>⟨b',h1,h2,(hs b' _ h1 h3).1 (by rw[Ux];decide)⟩
 | 14,_,_,_,hs,⟨b',cs,h1,h2,h3,h4⟩=>by
  obtain⟨cs',h5,h6⟩:=(hs b' cs h1 h3).2 h4;exact⟨b',cs',h1,h2,h5,h6⟩
 | _+15,_,_,_,_,_=>rfl
def QR(B b n:Nat)(p:NN.Pr)(sp:Sp)(h:Hd)(e:En)(q:Ps):Nat->Value->World->Prop
 | 0,u,_=>u=af b
 | 1,u,_=>u=.agg (dc e)
 | 2,u,_=>u=af b
 | 3,u,_=>u=af b
 | 4,u,_=>u=af b
 | 5,u,_=>u=.agg (NN.aV p)
 | 6,u,_=>u=.agg (cU sp)
 | 7,u,_=>u=.agg (aS h)
 | 8,u,w=>∃s:Sp,u=.agg (cU s)/\s.ok/\jD (fun i=>B<=i) (fun w=>gR w 0 s q) w
 | 9,u,_=>u=i_ n
 | 10,u,_=>u=i_ n
 | 11,u,_=>u=i_ 0
 | 12,u,_=>u=i_ 0
 | _,_,_=>b=b
variable{e:En}
theorem JF{p:NN.Pr}{sp:Sp}{h:Hd}{q:Ps}{G:Nat->Prop}(hG:∀i,G i->i<B):∀(i:Nat)(u:Value)(w w':World),Kp G w w'->QR B b n p sp h e q i u w->QR B b n p sp h e q i u w'
 | 0,_,_,_,_,h|1,_,_,_,_,h|2,_,_,_,_,h|3,_,_,_,_,h|4,_,_,_,_,h|5,_,_,_,_,h|6,_,_,_,_,h|7,_,_,_,_,h|9,_,_,_,_,h|10,_,_,_,_,h|11,_,_,_,_,h|12,_,_,_,_,h=>h
 | 8,_,_,_,hk,⟨s,h1,h2,h3⟩=>⟨s,h1,h2,h3.on hk fun i hi hg=>absurd (hG i hg) (by omega)⟩
 | _+13,_,_,_,_,_=>rfl
def uE(B:Nat)(I:Nat->Prop)(b:Nat)(p:NN.Pr)(t:Tl)(gs:List Gt)(cs:List Ck)(room:Nat)(v:Value)(mb:Nat)(L:List Bk)(e:En)(q:Ps)(w:World):Prop:=∃I' v' s,jw w I' b p t gs cs room v' mb (L++[⟨e,s,q⟩])/\∀i,n9 I' b v' mb i->n9 I b v mb i\/B<=i
theorem I3(h:cV w k e):w.rangeAt k 0 (kn e):=by have:=j4 (A:=[]) (cs:=kn e) (C:=[]) (o:=0) (w:=w) (b:=k) (t:=60) (by rw[dW];exact h) rfl;exact this
theorem OG{s:Sp}(h:aY w k s):w.rangeAt k 0 (kt s):=by have:=j4 (A:=[]) (cs:=kt s) (C:=[]) (o:=0) (w:=w) (b:=k) (t:=141) (by rw[dW];exact h) rfl;exact this
theorem P4(b:Nat)(h:Hd)(ho:h.ok)(now:Int)(w:World)(KG:bG w 118 #[.agg (aS h)] (.bool true))(id:List UInt8)(i32:id.length=32)(KI:bG w 119 #[.agg (aS h)] (.agg (ae id)))(KF:bG w 120 #[.pointer (some ⟨b,0,none⟩),.agg (ae id)] (.int .i64 (-1))){I:Nat->Prop}{p:NN.Pr}{t:Tl}{gs:List Gt}{cs:List Ck}{room g n c mb:Nat}{L:List Bk}(HA:Hid (∀w',Below w.heap.size w w'->jw w' I b p t gs cs room (.slice (some ⟨g,0,none⟩) n c) mb L))(x:Bk)(xe:x.e.ok)(xs:x.s.ok)(j:Nat)(hj:j<n)(HR:Hid (∀w',Below w.heap.size w w'->w'.rangeAt g (j*144) (mO x.e x.s)))(KP:bG w 120 #[.pointer (some ⟨b,0,none⟩),.agg (ae h.prev)] (.int .i64 (j:Int)))(KC:bG w 121 #[.agg (NN.aV p),.agg (cU x.s),.agg (aS h),.int .i64 now] (.int .i64 0))(hroom:room<=n):ar 84 #[.pointer (some ⟨b,0,none⟩),.agg (aS h),.int .i64 now] w (.tuple #[.int .i64 (-1),.int .i64 0,.int .i64 6]):=by
 have za:=jI ho;go_enter Tryz.func84,Tryz.ntmps84;go_upto_region 1 with fail
 generalize hw0:World.alloc _ _=v0;have hB:Below w.heap.size w v0:=eT hw0;have hH:aX v0 w.heap.size h:=by rw[<-hw0];exact Has.new _ _
 clear hw0;obtain⟨bH,Vy⟩:∃x,x=w.heap.size:=⟨_,rfl⟩;rw[<-Vy]at hH|-;have Yf:Hid (bH=w.heap.size):=h_ Vy;clear Vy;go_wp2_with (first|fail|(with_reducible refine dU rfl _ rfl _ rfl hH za ?_))
 refine az (KG.out _ hB) fun v1 hb=>?_;replace hH:=hH.on hb;replace hB:=ai hB hb;clear hb;go_wp2_with (first|fail|(with_reducible refine dU rfl _ rfl _ rfl hH za ?_))
 refine az (KI.out _ hB) fun v2 hb=>?_;replace hH:=hH.on hb;replace hB:=ai hB hb;clear hb;have s1:(ae id).size=32:=by rw[nF];exact i32
 have o1:=oD id;have HW2:Hid (w.heap.size<=v2.heap.size):=h_ hB.size;go_upto_region 6 with(with_reducible refine nt rfl _ _ rfl _ (ae id) (ae id) rfl rfl rfl s1 o1 h0 (er v2 _) rfl ?_)
 generalize hw4:World.setRow _ _ _=v3;have hb2:Below v2.heap.size v2 v3:=dZ hw4;have hI:Has v3 v2.heap.size (ae id) 28:=by rw[<-hw4];exact Has.row (er v2 _) _
 replace hH:=hH.on hb2;replace hB:=ai hB hb2;clear hw4 hb2 o1;obtain⟨bI,WR⟩:∃b,b=v2.heap.size:=⟨_,rfl⟩;rw[<-WR]at hI HW2|-;clear WR;go_wp2_with (first|fail|(with_reducible refine oM rfl _ rfl _ rfl _ hI s1 ?_))
 refine az (KF.out _ hB) fun v4 hb=>?_;replace hH:=hH.on hb;replace hI:=dz hb hI (Has.lt hI);replace hB:=ai hB hb;clear hb;have rp:=hH.prev;have s2:=lj ho.1;go_wp2_with (first|fail|(with_reducible refine jL rfl _ rfl bH 1 rfl h.prev rp s2 ?_))
 refine az (KP.out _ hB) fun v5 hb=>?_;replace hH:=hH.on hb;replace hI:=dz hb hI (Has.lt hI);replace hB:=ai hB hb;clear hb;clear rp;have WJ:=HA.out _ hB;have Xv:=lM WJ.has WJ.VQ;have rs:=EB xe (HR.out _ hB);have z3:=rq xs;have z4:=mJ xs;have z0:=mJ mS;have hp:=WJ.VQ;clear WJ;have ZV:Hid (w.heap.size<=v5.heap.size):=h_ hB.size
 go_upto_region 13 with(first
  | (with_reducible refine DP rfl _ rfl g (j*144+106) rfl x.s rs z3 ?_)
  | (with_reducible refine wW rfl _ _ rfl _ _ x.s rfl rfl rfl z4 (sQ v5) z0 ?_))
 generalize hw4:World.setRow _ _ _=v6;have hb2:Below v5.heap.size v5 v6:=dZ hw4;have hS:aY v6 v5.heap.size x.s:=by rw[<-hw4];exact Has.row (sQ v5) _
 replace hH:=hH.on hb2;replace hI:=dz hb2 hI (Has.lt hI);replace hB:=ai hB hb2;clear hw4 hb2 Xv rs;obtain⟨bS,hbS⟩:∃b,b=v5.heap.size:=⟨_,rfl⟩;rw[<-hbS]at hS ZV|-;clear hbS;simp only[Act.put];have hz:=nc hp;have ra:=jW (tG (HA.out _ hB).has) (by rw[hz];omega);have qS:=hS.cls;have qH:=jW hH.range (ou h);have sh:=gQ ho;have Yg:∀d os,Below w.heap.size w (Sort.grow (redrawn v6 d) os):=fun d os=>hB.trans ((below_regrown v6 d os).mono hB.size)
 refine wp_region_quiet_below (by kernel_rfl) (by kernel_rfl) ?_
 repeat(first
  | (go_big_quiet_want;(with_reducible first|refine DL 32 _ rfl b 0 rfl (NN.f_ p) _ Tryz.underlying32 rfl (NN.jg.trans (by rw[hz])) ra ?_|refine El _ rfl bS rfl z4 qS ?_|refine oS _ rfl bH 0 rfl h sh qH ?_);(simp only[Act.put,da,aZ,bg]);go_big_quiet_on)
  | go_big_quiet_step ((go_at_call 121;exact Calls.regrown_of (KC.out _ (Yg _ _)))))
 refine wpQuiet_nil ?_;intro v7 hw';have hb:=rO v7 hw';replace hH:=hH.on hb;replace hI:=dz hb hI (Has.lt hI);replace hS:=hS.on hb;replace hB:=ai hB hb;clear hw' hb ra qS qH sh Yg;go_upto_region 16 with fail
 have ZA:=HA.out _ hB;have q84:∀d os,(Sort.grow (redrawn v7 d) os).cell? ⟨b,84,none⟩=some (.slice (some ⟨g,0,none⟩) n c):=cell_regrown (lM ZA.has hp);have q83:∀d os,(Sort.grow (redrawn v7 d) os).cell? ⟨b,83,none⟩=some (.int .i64 (room:Int)):=cell_regrown (NU ZA.has hp);clear ZA;refine wp_region_quiet_below (by kernel_rfl) (by kernel_rfl) ?_
 repeat(first
  | go_big_quiet_step (fail))
 refine wpQuiet_nil ?_;intro v8 hw';have hb:=rO v8 hw';replace hH:=hH.on hb;replace hI:=dz hb hI (Has.lt hI);replace hS:=hS.on hb;replace hB:=ai hB hb;clear hw' hb q84 q83;go_wp2_with fail
 go_ret3
 exact⟨rfl,hB⟩
theorem AD(b:Nat)(h:Hd)(ho:h.ok)(now:Int)(w:World)(KG:bG w 118 #[.agg (aS h)] (.bool true))(id:List UInt8)(i32:id.length=32)(KI:bG w 119 #[.agg (aS h)] (.agg (ae id)))(KF:bG w 120 #[.pointer (some ⟨b,0,none⟩),.agg (ae id)] (.int .i64 (-1))){I:Nat->Prop}{p:NN.Pr}{t:Tl}{gs:List Gt}{cs:List Ck}{room g n c mb:Nat}{L:List Bk}(HA:Hid (∀w',Below w.heap.size w w'->jw w' I b p t gs cs room (.slice (some ⟨g,0,none⟩) n c) mb L))(x:Bk)(xe:x.e.ok)(xs:x.s.ok)(j:Nat)(hj:j<n)(HR:Hid (∀w',Below w.heap.size w w'->w'.rangeAt g (j*144) (mO x.e x.s)))(KP:bG w 120 #[.pointer (some ⟨b,0,none⟩),.agg (ae h.prev)] (.int .i64 (j:Int)))(KC:bG w 121 #[.agg (NN.aV p),.agg (cU x.s),.agg (aS h),.int .i64 now] (.int .i64 0))(hroom:¬room<=n)(ob z:Nat)(KO:CN 123 #[.int .i64 h.bits] (.agg (NN.aa ob)))(KS:Hid (∀b' w',NN.Has w' b' (NN.cK [x.e.wk,ob]) 26->Calls Tryz.prog 122 #[.slice (some ⟨b',0,none⟩) 2 2] w' fun e w''=>e=.returned (.agg (NN.aa z))/\Below w'.heap.size w' w''))(q9:Ps)(q32:q9.prev.length=32)(KB:Hid (∀w',Below w.heap.size w w'->Calls Tryz.prog 125 #[.agg (NN.aV p),.agg (cU x.s),.agg (aS h)] w' fun r w''=>∃s,r=.returned (.agg (cU s))/\gR w'' w'.heap.size s q9/\Below w'.heap.size w' w''))(ht:Int)(e4:x.s.x.h=ht)(hn:n=L.length)(Xc:L.length<=900)(hf:(L.map (·.e.id)).findIdx? (· == id)=none):Calls Tryz.prog 84 #[.pointer (some ⟨b,0,none⟩),.agg (aS h),.int .i64 now] w fun r w'=>∃I' v' s,r=.returned (.tuple #[.int .i64 (n:Int),.int .i64 0,.int .i64 0])/\jw w' I' b p t gs cs room v' mb (L++[⟨⟨h,id,(j:Int),ht,z⟩,s,q9⟩])/\Kp (fun i=>i=b\/i=mb\/(Value.slice (some ⟨g,0,none⟩) n c).ownBlock=some i) w w'/\(∀i,n9 I' b v' mb i->n9 I b (.slice (some ⟨g,0,none⟩) n c) mb i\/w.heap.size<=i):=by
 have HE:=h_ (show n=L.length/\L.length<=900/\(L.map (·.e.id)).findIdx? (· == id)=none from⟨hn,Xc,hf⟩);have E4:=h_ e4;clear e4 hn Xc hf;have za:=jI ho;go_enter Tryz.func84,Tryz.ntmps84;go_upto_region 1 with fail
 generalize hw0:World.alloc _ _=v0;have hB:Below w.heap.size w v0:=eT hw0;have hH:aX v0 w.heap.size h:=by rw[<-hw0];exact Has.new _ _
 clear hw0;obtain⟨bH,Vy⟩:∃x,x=w.heap.size:=⟨_,rfl⟩;rw[<-Vy]at hH|-;have Yf:Hid (bH=w.heap.size):=h_ Vy;clear Vy;go_wp2_with (first|fail|(with_reducible refine dU rfl _ rfl _ rfl hH za ?_))
 refine az (KG.out _ hB) fun v1 hb=>?_;replace hH:=hH.on hb;replace hB:=ai hB hb;clear hb;go_wp2_with (first|fail|(with_reducible refine dU rfl _ rfl _ rfl hH za ?_))
 refine az (KI.out _ hB) fun v2 hb=>?_;replace hH:=hH.on hb;replace hB:=ai hB hb;clear hb;have s1:(ae id).size=32:=by rw[nF];exact i32
 have o1:=oD id;have HW2:Hid (w.heap.size<=v2.heap.size):=h_ hB.size;go_upto_region 6 with(with_reducible refine nt rfl _ _ rfl _ (ae id) (ae id) rfl rfl rfl s1 o1 h0 (er v2 _) rfl ?_)
 generalize hw4:World.setRow _ _ _=v3;have hb2:Below v2.heap.size v2 v3:=dZ hw4;have hI:Has v3 v2.heap.size (ae id) 28:=by rw[<-hw4];exact Has.row (er v2 _) _
 replace hH:=hH.on hb2;replace hB:=ai hB hb2;clear hw4 hb2 o1;obtain⟨bI,WR⟩:∃b,b=v2.heap.size:=⟨_,rfl⟩;rw[<-WR]at hI HW2|-;clear WR;go_wp2_with (first|fail|(with_reducible refine oM rfl _ rfl _ rfl _ hI s1 ?_))
 refine az (KF.out _ hB) fun v4 hb=>?_;replace hH:=hH.on hb;replace hI:=dz hb hI (Has.lt hI);replace hB:=ai hB hb;clear hb;have rp:=hH.prev;have s2:=lj ho.1;go_wp2_with (first|fail|(with_reducible refine jL rfl _ rfl bH 1 rfl h.prev rp s2 ?_))
 refine az (KP.out _ hB) fun v5 hb=>?_;replace hH:=hH.on hb;replace hI:=dz hb hI (Has.lt hI);replace hB:=ai hB hb;clear hb;clear rp;have WJ:=HA.out _ hB;have Xv:=lM WJ.has WJ.VQ;have rs:=EB xe (HR.out _ hB);have z3:=rq xs;have z4:=mJ xs;have z0:=mJ mS;have hp:=WJ.VQ;clear WJ;have ZV:Hid (w.heap.size<=v5.heap.size):=h_ hB.size
 go_upto_region 13 with(first
  | (with_reducible refine DP rfl _ rfl g (j*144+106) rfl x.s rs z3 ?_)
  | (with_reducible refine wW rfl _ _ rfl _ _ x.s rfl rfl rfl z4 (sQ v5) z0 ?_))
 generalize hw4:World.setRow _ _ _=v6;have hb2:Below v5.heap.size v5 v6:=dZ hw4;have hS:aY v6 v5.heap.size x.s:=by rw[<-hw4];exact Has.row (sQ v5) _
 replace hH:=hH.on hb2;replace hI:=dz hb2 hI (Has.lt hI);replace hB:=ai hB hb2;clear hw4 hb2 Xv rs;obtain⟨bS,hbS⟩:∃b,b=v5.heap.size:=⟨_,rfl⟩;rw[<-hbS]at hS ZV|-;clear hbS;simp only[Act.put];have hz:=nc hp;have ra:=jW (tG (HA.out _ hB).has) (by rw[hz];omega);have qS:=hS.cls;have qH:=jW hH.range (ou h);have sh:=gQ ho;have Yg:∀d os,Below w.heap.size w (Sort.grow (redrawn v6 d) os):=fun d os=>hB.trans ((below_regrown v6 d os).mono hB.size)
 refine wp_region_quiet_below (by kernel_rfl) (by kernel_rfl) ?_
 repeat(first
  | (go_big_quiet_want;(with_reducible first|refine DL 32 _ rfl b 0 rfl (NN.f_ p) _ Tryz.underlying32 rfl (NN.jg.trans (by rw[hz])) ra ?_|refine El _ rfl bS rfl z4 qS ?_|refine oS _ rfl bH 0 rfl h sh qH ?_);(simp only[Act.put,da,aZ,bg]);go_big_quiet_on)
  | go_big_quiet_step ((go_at_call 121;exact Calls.regrown_of (KC.out _ (Yg _ _)))))
 refine wpQuiet_nil ?_;intro v7 hw';have hb:=rO v7 hw';replace hH:=hH.on hb;replace hI:=dz hb hI (Has.lt hI);replace hS:=hS.on hb;replace hB:=ai hB hb;clear hw' hb ra qS qH sh Yg;go_upto_region 16 with fail
 have ZA:=HA.out _ hB;have q84:∀d os,(Sort.grow (redrawn v7 d) os).cell? ⟨b,84,none⟩=some (.slice (some ⟨g,0,none⟩) n c):=cell_regrown (lM ZA.has hp);have q83:∀d os,(Sort.grow (redrawn v7 d) os).cell? ⟨b,83,none⟩=some (.int .i64 (room:Int)):=cell_regrown (NU ZA.has hp);clear ZA;refine wp_region_quiet_below (by kernel_rfl) (by kernel_rfl) ?_
 repeat(first
  | go_big_quiet_step (fail))
 refine wpQuiet_nil ?_;intro v8 hw';have hb:=rO v8 hw';replace hH:=hH.on hb;replace hI:=dz hb hI (Has.lt hI);replace hS:=hS.on hb;replace hB:=ai hB hb;clear hw' hb q84 q83;go_upto_region 18 with fail
 have aj2:=h_ hB;refine lG (by kernel_rfl) (fun w'=>Below v8.heap.size v8 w') (fun i v' w'=>Si v8.heap.size b bH g j n c x.e.wk ob z h.bits i v' w') (fun l a w'=>kX 15 14 (fun w'=>v8.heap.size<=w'.heap.size) (fun u w'=>∃b',u=.pointer (some ⟨b',0,none⟩)/\v8.heap.size<=b'/\NN.Has w' b' (NN.aa z) 26) l a w') (dF v8.heap.size) (fun _ _=>dF.refl _ _) (fun i v w w' _ hs h=>Mi i v w w' hs h) (by kernel_rfl) cg.drew ?_ ?_ ?_;exact fun l hl=>kX.zero hl (aA v8.heap.size v8).drew.size
 ·intro i o lz a wx ho' hnl dq Z;have hC:=Z.c;have hI:=Z.i;have hi:i<16:=(dA.1 ho').1;have Xt:aX wx bH h:=dz hC hH hH.lt;have ae1:=Xt.bits ho;have hBx:=ai aj2.out hC;have Xv:=lM (HA.out _ hBx).has hp;have rw:=EF xe (y7 (HR.out _ hBx));obtain rfl|rfl|rfl|rfl|rfl|rfl|rfl|rfl|rfl|rfl|rfl|rfl|rfl|rfl|rfl|rfl:i=0\/i=1\/i=2\/i=3\/i=4\/i=5\/i=6\/i=7\/i=8\/i=9\/i=10\/i=11\/i=12\/i=13\/i=14\/i=15:=by omega
  all_goals obtain rfl:=Option.some.inj ho'
  exact fw (S:=dF v8.heap.size) (fun _ _=>dF.refl _ _) 0 Z (aq rfl) (NN.fs rfl) (Z.old' 0) (hI.keep (aC Z 0));exact fw (S:=dF v8.heap.size) (fun _ _=>dF.refl _ _) 1 Z (aq rfl) (dR rfl (aw Z dq 0 66)) rfl (hI.keep (aC Z 1));exact fw (S:=dF v8.heap.size) (fun _ _=>dF.refl _ _) 2 Z (aq rfl) (fg rfl (aw Z dq 1 67) (pH wx b)) rfl (hI.keep (aC Z 2));exact fw (S:=dF v8.heap.size) (fun _ _=>dF.refl _ _) 3 Z (aq rfl) (J_ rfl (aw Z dq 2 68) Xv) rfl (hI.keep (aC Z 3));exact fw (S:=dF v8.heap.size) (fun _ _=>dF.refl _ _) 4 Z (aq rfl) (NN.fs rfl) (Z.old' 11) (hI.keep (aC Z 4));exact fw (S:=dF v8.heap.size) (fun _ _=>dF.refl _ _) 5 Z (aq rfl) (fY rfl (aw Z dq 3 69) (aw Z dq 4 70) (FO wx g j n c hj)) rfl (hI.keep (aC Z 5));exact fw (S:=dF v8.heap.size) (fun _ _=>dF.refl _ _) 6 Z (aq rfl) (yo rfl (aw Z dq 5 71) (vV wx g (j*144))) rfl (hI.keep (aC Z 6));exact fw (S:=dF v8.heap.size) (fun _ _=>dF.refl _ _) 7 Z (aq rfl) (yo rfl (aw Z dq 6 72) (A7 wx g (j*144))) rfl (hI.keep (aC Z 7));exact fw (S:=dF v8.heap.size) (fun _ _=>dF.refl _ _) 8 Z (aq rfl) (MS rfl (aw Z dq 7 73) rw) rfl (hI.keep (aC Z 8));exact fw (S:=dF v8.heap.size) (fun _ _=>dF.refl _ _) 9 Z (aq rfl) (fg rfl (Z.old' 4) (tx wx bH)) rfl (hI.keep (aC Z 9));exact fw (S:=dF v8.heap.size) (fun _ _=>dF.refl _ _) 10 Z (aq rfl) (NN.pg rfl (aw Z dq 9 75) ae1) rfl (hI.keep (aC Z 10))
  ·have hsz:=aC Z 11;have Vu:=fB Z hnl 15;have hpre:=hI.pre Vu hsz (by decide);exact qF (S:=dF v8.heap.size) 11 Z (aq rfl) (f:=123) (args:=#[a.eval (.tmp 76)]) (by kernel_rfl) (by rw[show a.eval (.tmp 76)=_ from(aw Z dq 10 76)];  exact KO.out wx) (fun w' hb=>⟨ai hC hb,dF.below hb,rfl,kX.made Vu (ax hpre hb.size)⟩)
  have hsz:=aC Z 12;have Vu:=fB Z hnl 15;have hpre:=hI.pre Vu hsz (by decide);have hb:Below wx.heap.size wx (wx.alloc (.cells (NN.cK [x.e.wk,ob]) 26)):=cu;exact Eo (S:=dF v8.heap.size) 12 Z (aq rfl) (NN.Iw rfl (aw Z dq 8 74) (aw Z dq 11 77)) (ai hC hb) (dF.below hb) ⟨wx.heap.size,hC.size,rfl,NN.Has.new _ _⟩ (kX.made Vu (ax hpre hb.size))
  ·have hsz:=aC Z 13;have Vu:=fB Z hnl 15;have hpre:=hI.pre Vu hsz (by decide);obtain⟨b',hb1,e78,hb3⟩:=(aw Z dq 12 78);exact qF (S:=dF v8.heap.size) 13 Z (aq rfl) (f:=122) (args:=#[a.eval (.tmp 78)]) (by kernel_rfl) (by rw[e78];exact KS.out b' wx hb3) (fun w' hb=>⟨ai hC hb,dF.below hb,rfl,kX.made Vu (ax hpre hb.size)⟩)
  have hsz:=aC Z 14;have Vu:=fB Z hnl 15;have hpre:=hI.pre Vu hsz (by decide);have hb:Below wx.heap.size wx (wx.alloc (.cells (NN.aa 0) 26)):=cu;exact Eo (S:=dF v8.heap.size) 14 Z (aq rfl) (NN.uw rfl) (ai hC hb) (dF.below hb) ⟨wx.heap.size,NN.aa 0,hC.size,rfl,NN.Has.new _ _,rfl⟩ (kX.made Vu (ax hpre hb.size));have hsz:=aC Z 15;obtain⟨b',cs',hb1,e14,hb3,hb4⟩:=(aw Z dq 14 14);exact U5 (S:=dF v8.heap.size) 15 Z (aq rfl) (NN.nk rfl e14 (aw Z dq 13 79) hb3 hb4) (below_setRow hC hb1 _) (dF.row hb3 hb4) rfl (kX.last _ hsz ⟨b',e14,hb1,hb3.row _⟩)
 intro lz a' v9 hall Z;have hC:=Z.c;obtain⟨bW,e14,hbW,hW⟩:=Z.i.2 (hall 15 (by decide));have e0:a'.eval (.tmp 0)=.pointer (some ⟨b,0,none⟩):=Z.old' 0;have e4:a'.eval (.tmp 4)=.pointer (some ⟨bH,0,none⟩):=Z.old' 4;have e9:a'.eval (.tmp 9)=.pointer (some ⟨bI,0,none⟩):=Z.old' 9;have e11:a'.eval (.tmp 11)=.int .i64 (j:Int):=Z.old' 11;have e12:a'.eval (.tmp 12)=.pointer (some ⟨bS,0,none⟩):=Z.old' 12;obtain⟨u,hu⟩:∃u:Nat->Value,∀t,u t=a'.eval (.tmp t):=⟨_,fun _=>rfl⟩;rw[iz a' 98 u Z.Vr Z.defers hu];rw[<-hu]at e0 e4 e9 e11 e12 e14;clear hu Z hall;simp only[List.range,List.range.loop,bZ,cx];rw[e0,e4,e9,e11,e12,e14];clear e0 e4 e9 e11 e12 e14;have hH9:aX v9 bH h:=dz hC hH hH.lt;have hI9:Has v9 bI (ae id) 28:=dz hC hI (Has.lt hI);have ZW:aY v9 bS x.s:=dz hC hS hS.lt;have W9:=ai hB hC;have Yo:Hid (w.heap.size<=bH/\w.heap.size<=bI/\w.heap.size<=bS):=h_ ⟨by rw[Yf.out];exact au _,HW2.out,ZV.out⟩;clear hC hH hI hS hB hbW;have c0:=ZW.c0 (z:=ht) E4;have he:(⟨h,id,(j:Int),ht,z⟩:En).ok:=⟨ho,i32⟩;have ze:=ki he;have zz:=ki eo
 go_upto_region 20 with(first
  | (with_reducible refine dU rfl _ rfl _ rfl hH9 za ?_)
  | (with_reducible refine oM rfl _ rfl _ rfl _ hI9 s1 ?_)
  | (with_reducible refine NN.a_ rfl _ rfl _ rfl _ hW rfl ?_)
  | (with_reducible refine Lq rfl _ _ _ _ _ rfl ⟨h,id,(j:Int),ht,z⟩ he rfl rfl rfl rfl rfl ?_)
  | (with_reducible refine lu rfl _ _ rfl _ _ ⟨h,id,(j:Int),ht,z⟩ rfl rfl rfl ze (kp v9) zz ?_))
 generalize hw4:World.setRow _ _ _=v10;have hb2:Below v9.heap.size v9 v10:=dZ hw4;have hE:cV v10 v9.heap.size ⟨h,id,(j:Int),ht,z⟩:=by rw[<-hw4];exact Has.row (kp v9) _
 have aj3:=hH9.on hb2;have aj4:=ZW.on hb2;have Xw:=ai W9 hb2;have HLE:Hid (w.heap.size<=v9.heap.size):=h_ W9.size;clear hw4 hb2 hH9 hI9 ZW hW c0 W9;obtain⟨bE,W5⟩:∃b,b=v9.heap.size:=⟨_,rfl⟩;rw[<-W5]at hE|-;have aj5:Hid (w.heap.size<=bE):=h_ (by rw[W5];exact HLE.out);clear W5;simp only[Act.put];have Xd:=HA.out _ Xw;have VN:=HA.out _ cg;generalize hF:(fun i=>i=b\/i=mb\/(Value.slice (some ⟨g,0,none⟩) n c).ownBlock=some i)=F
 have fl:∀i,F i->i<w.heap.size:=fun i hi=>by
  rw[<-hF]at hi;exact VN.Wb (.inr hi)
 have HFE:=h_ hF;have FL:∀k,w.heap.size<=k->¬F k:=fun k hk hf=>by have:=fl k hf;omega
 have hz:=nc hp;clear hF VN;refine lG (by kernel_rfl) (fun w'=>Kp F v10 w') (fun i v' w'=>QR v10.heap.size b n p x.s h (En.mk h id (j:Int) ht z) q9 i v' w') (fun l _ w'=>Ph 9 (fun w'=>Below v10.heap.size v10 w'/\jw w' I b p t gs cs room (.slice (some ⟨g,0,none⟩) n c) mb L) (fun w'=>uE w.heap.size I b p t gs cs room (.slice (some ⟨g,0,none⟩) n c) mb L (En.mk h id (j:Int) ht z) q9 w') l w') (fun w w'=>Kp F w w') (fun w' _=>Kp.refl _ w') (fun i v w w' _ hs h=>JF (fun i hi=>b_ (fl i hi) Xw.size) i v w w' hs h) (by kernel_rfl) (Kp.of cg.drew) ?_ ?_ ?_;exact fun l hl=>Ph.zero hl ⟨cg.drew,Xd.below cg.drew⟩
 ·intro i o lz a wx ho' hnl dq Z;have hC:=Z.c;have hI:=Z.i;have hi:i<13:=(dA.1 ho').1;have Xt:aX wx bH h:=hC.has aj3 (FL _ Yo.out.1);have hSx:aY wx bS x.s:=hC.has aj4 (FL _ Yo.out.2.2);have ZU:cV wx bE (En.mk h id (j:Int) ht z):=hC.has hE (FL _ aj5.out);obtain rfl|rfl|rfl|rfl|rfl|rfl|rfl|rfl|rfl|rfl|rfl|rfl|rfl:i=0\/i=1\/i=2\/i=3\/i=4\/i=5\/i=6\/i=7\/i=8\/i=9\/i=10\/i=11\/i=12:=by omega
  all_goals obtain rfl:=Option.some.inj ho'
  exact fw (S:=fun w w'=>Kp F w w') (fun w' _=>Kp.refl _ w') 0 Z (aq rfl) (NN.fs rfl) (Z.old' 0) (hI.keep (aC Z 0));exact fw (S:=fun w w'=>Kp F w w') (fun w' _=>Kp.refl _ w') 1 Z (aq rfl) (MK rfl (Z.old' 15) (I3 ZU) (rC he)) rfl (hI.keep (aC Z 1));exact fw (S:=fun w w'=>Kp F w w') (fun w' _=>Kp.refl _ w') 2 Z (aq rfl) (NN.fs rfl) (Z.old' 0) (hI.keep (aC Z 2));exact fw (S:=fun w w'=>Kp F w w') (fun w' _=>Kp.refl _ w') 3 Z (aq rfl) (dR rfl (aw Z dq 2 90)) rfl (hI.keep (aC Z 3));exact fw (S:=fun w w'=>Kp F w w') (fun w' _=>Kp.refl _ w') 4 Z (aq rfl) (fg rfl (aw Z dq 3 91) (AA wx b)) rfl (hI.keep (aC Z 4));have hsz:=aC Z 5;have Vu:=fB Z hnl 9;have hpre:=hI.pre Vu hsz (by decide);exact fw (S:=fun w w'=>Kp F w w') (fun w' _=>Kp.refl _ w') 5 Z (aq rfl) (Fv rfl (aw Z dq 4 92) (tG hpre.2.has) hz) rfl (hI.keep hsz);exact fw (S:=fun w w'=>Kp F w w') (fun w' _=>Kp.refl _ w') 6 Z (aq rfl) (N7 rfl (Z.old' 12) (OG hSx) z3) rfl (hI.keep (aC Z 6));exact fw (S:=fun w w'=>Kp F w w') (fun w' _=>Kp.refl _ w') 7 Z (aq rfl) (rM rfl (Z.old' 4) Xt.range (gQ ho)) rfl (hI.keep (aC Z 7))
  ·have hsz:=aC Z 8;have Vu:=fB Z hnl 9;have hpre:=hI.pre Vu hsz (by decide)
   exact DC (V:=fun v w'=>∃s,v=.agg (cU s)/\gR w' wx.heap.size s q9) (C:=(fun w'=>Kp F v10 w')) (S:=(fun w w'=>Kp F w w')) (R:=fun v' w'=>QR v10.heap.size b n p x.s h (En.mk h id (j:Int) ht z) q9 8 v' w') (J:=fun _ w'=>Ph 9 (fun w'=>Below v10.heap.size v10 w'/\jw w' I b p t gs cs room (.slice (some ⟨g,0,none⟩) n c) mb L) (fun w'=>uE w.heap.size I b p t gs cs room (.slice (some ⟨g,0,none⟩) n c) mb L (En.mk h id (j:Int) ht z) q9 w') (lz.setIfInBounds 8 true) w') (aq rfl) (f:=125) (args:=#[a.eval (.tmp 93),a.eval (.tmp 94),a.eval (.tmp 95)]) (by kernel_rfl) (by
    rw[show a.eval (.tmp 93)=_ from(aw Z dq 5 93),show a.eval (.tmp 94)=_ from(aw Z dq 6 94),show a.eval (.tmp 95)=_ from(aw Z dq 7 95)];refine(KB.out wx ?_).mono ?_;exact ai Xw hpre.1
    ·rintro r w' ⟨s,rfl,h2,h3⟩;exact⟨_,rfl,⟨s,rfl,h2⟩,h3⟩) (fun v w' hv hb=>⟨hC.trans (Kp.of (F:=F) hb) (fun i hi _=>hi),Kp.of hb,(by
     obtain⟨s,rfl,h2⟩:=hv;exact⟨s,rfl,(by unfold Sp.ok;rw[h2.2.1];exact q32),I1 h2 fun i hi _=>ax hC.size hi⟩),Ph.made Vu ⟨ai hpre.1 hb,hpre.2.below hb⟩⟩)
  ·have hsz:=aC Z 9;have hpre:=hI.1 hnl;obtain⟨s,e96,so,hJ⟩:=(aw Z dq 8 96)
   exact CA (S:=fun w w'=>Kp F w w') 9 Z (aq rfl) (f:=124) (args:=#[a.eval (.tmp 88),a.eval (.tmp 89),a.eval (.tmp 96)]) (by kernel_rfl) (by
    rw[show a.eval (.tmp 88)=_ from(aw Z dq 0 88),show a.eval (.tmp 89)=_ from(aw Z dq 1 89),e96];obtain⟨hn,Xc,hf⟩:=HE.out;refine(Qk hpre.2 ⟨En.mk h id (j:Int) ht z,s,q9⟩ he so (fun i=>v10.heap.size<=i/\i<wx.heap.size) hJ.clip (fun i hi=>hi.2) (fun i hi hq=>?_) Xc hf).mono ?_;have:=fl i (by rw[<-HFE.out];exact hq);have:=Xw.size;omega
    ·rintro r w' ⟨v',rfl,hA',hK,hl⟩;have Zy:Kp F wx w':=hK.mono fun i hi _=>by rw[<-HFE.out];exact hi
     refine⟨_,rfl,hC.trans Zy (fun i hi _=>hi),Zy,(by rw[<-hn];rfl),Ph.last hsz ⟨_,v',_,hA',fun i hi=>?_⟩⟩;have h10:=Xw.size;rcases hi with(hi|hi)|rfl|rfl|hi
     exact .inl (.inl hi);exact .inr (ax h10 hi.1);exact .inl (.inr (.inl rfl));exact .inl (.inr (.inr (.inl rfl)))
     ·rcases hl with hl|⟨g',hl,hg⟩
      exact .inl (.inr (.inr (.inr (hl.symm.trans hi))));rw[hl]at hi;have hig:g'=i:=Option.some.inj hi;have:=hC.size;exact .inr (by omega))
  exact fw (S:=fun w w'=>Kp F w w') (fun w' _=>Kp.refl _ w') 10 Z (aq rfl) (NN.iX rfl) (aw Z dq 9 97) (hI.keep (aC Z 10));exact fw (S:=fun w w'=>Kp F w w') (fun w' _=>Kp.refl _ w') 11 Z (aq rfl) (NN.iX rfl) rfl (hI.keep (aC Z 11));exact fw (S:=fun w w'=>Kp F w w') (fun w' _=>Kp.refl _ w') 12 Z (aq rfl) (NN.iX rfl) rfl (hI.keep (aC Z 12))
 intro lz a' v11 hall Z;have hC:=Z.c;obtain⟨I',v',s,YD,hm⟩:=Z.i.2 (hall 9 (by decide));have e6:a'.eval (.tmp 6)=.int .i64 (n:Int):=Z.got 10 _ 6 rfl (hall 10 (by decide)) rfl;have e7:a'.eval (.tmp 7)=.int .i64 0:=Z.got 11 _ 7 rfl (hall 11 (by decide)) rfl;have e8:a'.eval (.tmp 8)=.int .i64 0:=Z.got 12 _ 8 rfl (hall 12 (by decide)) rfl;obtain⟨u,hu⟩:∃u:Nat->Value,∀t,u t=a'.eval (.tmp t):=⟨_,fun _=>rfl⟩;rw[iz a' 98 u Z.Vr Z.defers hu];rw[<-hu]at e6 e7 e8;clear hu Z hall;simp only[List.range,List.range.loop,bZ,cx];rw[e6,e7,e8];clear e6 e7 e8;go_wp2_with fail
 go_ret3
 refine⟨I',v',s,rfl,YD,?_,hm⟩;rw[HFE.out];exact(Kp.of (F:=F) Xw).trans hC (fun i hi _=>hi)
end An
namespace An
open Go.RowKit Mem Sc
open Ar (av Ru aN Ok)
variable{w:World}{F:Nat->Prop}{b:Nat}{r:Ru}{M:List av}
theorem u_{w':World}(h:k9 w F b r M)(hb:Bl w w'):k9 w' (mD F w w') b r M:=(h.below hb).wide (fun _ hi=>.inl hi) (pG h.1 hb.size)
theorem nO(hA:k9 w F b r M)(hM:Ok r M)(hl:M.length<=900)(hgl:r.gs.length<=1000)(hcl:r.cs.length<=1000)(hT:gj w)(h:Hd)(ho:h.ok)(now:Int):aU 84 #[af b,.agg (aS h),i_ now] w fun e w'=>e=.returned (.tuple #[i_ (Ar.add r M h now).1.1,i_ (Ar.add r M h now).1.2.1,i_ (Ar.add r M h now).1.2.2])/\k9 w' (mD F w w') b r (Ar.add r M h now).2/\Kp F w w':=by
 have KG:∀g,decide h.P=g->bG w 118 #[.agg (aS h)] (.bool g):=fun g hg=>h_ fun w' _=>by rw[<-hg];exact r7 h ho w'
 by_cases hP:h.P
 ·have Xx:=KG true (aG hP);have KI:bG w 119 #[.agg (aS h)] (.agg (ae h.id)):=h_ fun w' hb=>qL h ho w' (hT.below hb)
  cases h1:Ar.oA r.g M h.id with
  | some i=>
   have ea:Ar.add r M h now=((((i:Nat):Int),(0:Int),(0:Int)),M):=by unfold Ar.add;rw[ah (fun hh=>hh hP),h1]
   rw[ea];refine(G2 b h ho now w Xx h.id (lJ h) KI i (h_ fun w' hb=>?_)).mono ?_;have:=z_ (hA.below hb) h.id (lJ h);rwa[h1]at this
   rintro e w' ⟨rfl,hb⟩;exact⟨rfl,u_ hA hb,Kp.of hb⟩
  | none=>
   have KF:bG w 120 #[af b,.agg (ae h.id)] (i_ (-1)):=h_ fun w' hb=>by
    have:=z_ (hA.below hb) h.id (lJ h);rwa[h1]at this
   cases h2:Ar.oA r.g M h.prev with
   | none=>
    have ea:Ar.add r M h now=((-1,2,5),M):=(by unfold Ar.add;rw[ah (fun hh=>hh hP),h1];simp only[h2]);rw[ea];refine(Nr b h ho now w Xx h.id (lJ h) KI KF (h_ fun w' hb=>?_)).mono ?_;have:=z_ (hA.below hb) h.prev ho.1;rwa[h2]at this
    rintro e w' ⟨rfl,hb⟩;exact⟨rfl,u_ hA hb,Kp.of hb⟩
   | some j=>
    have KP:bG w 120 #[af b,.agg (ae h.prev)] (i_ j):=h_ fun w' hb=>by
     have:=z_ (hA.below hb) h.prev ho.1;rwa[h2]at this
    obtain⟨d,hd,_⟩:=Ar.uP h2;have hjl:=(bk.1 hd).1;have eD:M.getD j aN=d:=(by rw[dC,hd];rfl);have hA':=hA;obtain⟨hFl,I,p,t,v,mb,L,a1,a2,a3,a4⟩:=hA';obtain⟨s,hs⟩:=a3.at hd;obtain⟨g,c,rfl,hg,hr⟩:=a1.range hs;have hx:=a1.du _ (ee hs);have ZB:=a3.length;have HA:Hid (∀w',Bl w w'->jw w' I b p t r.gs r.cs r.room (.slice (bs g) L.length c) mb L):=h_ fun w' hb=>a1.below hb
    have HR:Hid (∀w',Bl w w'->w'.rangeAt g (j*144) (mO (cX r d) s)):=h_ fun w' hb=>lL hr hb (by rw[wU hx.1 hx.2];omega)
    obtain⟨c1,c2⟩:=hM.chain j d hd;have q1:=o8 r.p r.g d.hs d.hs.length (au _);have q2:=NK r.p r.g d.hs d.hs.length (au _);have q3:=sm r.p r.g d.hs d.hs.length (au _)
    have KC:∀y,Ar.oY r d h now=y->bG w 121 #[.agg (NN.aV p),.agg (cU s),.agg (aS h),i_ now] (i_ y):=fun y hy=>h_ fun w' hb=>by
     have W8:=HA.out w' hb;have hsp:=(W8.V7 _ (ee hs)).now;have:=Im p W8.VQ t W8.tt r.gs r.cs W8.gn W8.cn (by rw[W8.gn];exact hgl) (by rw[W8.cn];exact hcl) s (Ar.spot r d) hsp.1 hsp.2.1 hsp.2.2.1 hsp.2.2.2.1 q2 (by rw[<-hsp.2.2.1];show(kC r.p r.g d.hs d.hs.length).ts.length<=_;rw[q3];omega) h ho now w' (hT.below hb) (hsp.2.2.2.2.2.wide (au _) (au _)) W8.VL.now W8.checks.now;rw[Qn a2]at this;rw[<-hy];exact this
    by_cases h3:Ar.oY r d h now=0
    ·by_cases h4:r.room<=M.length;have ea:Ar.add r M h now=((-1,0,6),M):=(by unfold Ar.add;rw[ah (fun hh=>hh hP),h1];simp only[h2,eD];rw[ah (fun hh=>hh h3),aj h4]);rw[ea];refine az (P4 b h ho now w Xx h.id (lJ h) KI KF HA ⟨cX r d,s,Ar.spot r d⟩ hx.1 hx.2 j (by rw[ZB];exact hjl) HR KP (KC 0 h3) (by rw[ZB];exact h4)) fun w' hb=>?_;exact⟨rfl,u_ hA hb,Kp.of hb⟩
     ·have ea:Ar.add r M h now=((((M.length:Nat):Int),(0:Int),(0:Int)),M++[⟨d.hs++[h],(j:Int)⟩]):=(by unfold Ar.add;rw[ah (fun hh=>hh hP),h1];simp only[h2,eD];rw[ah (fun hh=>hh h3),ah h4]);rw[ea];have hf:(L.map (·.e.id)).findIdx? (· == h.id)=none:=(by rw[a3.find];exact h1);have sx:s.x=(Ar.spot r d).x:=((a1.V7 _ (ee hs)).now).1;refine(AD b h ho now w Xx h.id (lJ h) KI KF HA ⟨cX r d,s,Ar.spot r d⟩ hx.1 hx.2 j (by rw[ZB];exact hjl) HR KP (KC 0 h3) (by rw[ZB];exact h4) (NN.ofBits h.bits) (NN.Nm.cap (iK r d.hs+NN.ofBits h.bits)) (h_ fun w'=>NN.BM h.bits w') (h_ fun b' w' hL=>NN.Da _ _ (wM r d.hs) (NN.Js _) _ rfl b' w' hL) (bh r.p (Ar.spot r d) h) (lJ h) (h_ fun w' hb=>?_) (d.hs.length+1:Nat) (by show s.x.h=_;rw[sx];exact q1) rfl (by rw[ZB];exact hl) hf).mono ?_;have W8:=HA.out w' hb;have hsp:=(W8.V7 _ (ee hs)).now;refine(GU p W8.VQ s hx.2 (Ar.spot r d).ts hsp.2.2.1 hsp.2.2.2.1 (by rw[<-hsp.2.2.1];show(kC r.p r.g d.hs d.hs.length).ts.length<=_;rw[q3];omega) (by obtain⟨b2,e⟩:=hsp.2.2.2.2.1;rw[e];intro h;cases h) (by rw[sx];show 0<=(kC r.p r.g d.hs d.hs.length).x.h;rw[q1];omega) (by rw[sx];show(kC r.p r.g d.hs d.hs.length).x.h<=_;rw[q1];omega) h ho w' (hT.below hb) (hsp.2.2.2.2.2.wide (au _) (au _))).mono ?_;rintro r2 w2 ⟨b',c',rfl,g1,g2,g3⟩;refine⟨_,rfl,⟨?_,rfl,rfl,g1,⟨b',rfl⟩,g2⟩,g3⟩;show CX p s.x h=CX r.p (Ar.spot r d).x h;rw[sx];exact aJ Ps.x (NM a2 (Ar.spot r d) h)
      ·rintro e w' ⟨I',v',s',rfl,g1,g2,g3⟩;have hK:Kp F w w':=g2.mono fun i hi _=>a4 i (.inr hi)
       refine⟨by rw[ZB],⟨pG hFl hK.size,I',p,t,v',mb,_,g1,a2,?_,fun i hi=>?_⟩,hK⟩
       ·have hp:=a3.put ⟨d.hs++[h],(j:Int)⟩ s'
        have e1:cX r ⟨d.hs++[h],(j:Int)⟩=⟨h,h.id,(j:Int),((d.hs.length+1:Nat):Int),NN.Nm.cap (iK r d.hs+NN.ofBits h.bits)⟩:=by
         unfold cX;rw[Ar.lY,Ei];simp
        rw[e1,Ar.NO]at hp;exact hp
       ·rcases g3 i hi with hi2|hi2
        exact .inl (a4 i hi2);exact .inr ⟨hi2,g1.Wb hi⟩
    have ea:Ar.add r M h now=((-1,Ar.oY r d h now,8),M):=(by unfold Ar.add;rw[ah (fun hh=>hh hP),h1];simp only[h2,eD];rw[aj h3]);rw[ea];refine az (Ih b h ho now w Xx h.id (lJ h) KI KF HA ⟨cX r d,s,Ar.spot r d⟩ hx.1 hx.2 j (by rw[ZB];exact hjl) HR KP (Ar.oY r d h now) (by simpa using h3) (KC _ rfl)) fun w' hb=>?_;exact⟨rfl,u_ hA hb,Kp.of hb⟩
 ·have ea:Ar.add r M h now=((-1,1,8),M):=by unfold Ar.add;rw[aj hP]
  rw[ea];refine az (ye b h ho now w (KG false (aE hP))) fun w' hb=>?_;exact⟨rfl,u_ hA hb,Kp.of hb⟩
end An
namespace An
open Go.RowKit Mem Sc
theorem Ia(p:NN.Pr)(hz:(NN.aV p).size=83)(t:Tl)(tt:p.tl=t.C)(ht:t.ok)(gs:List Gt)(cs:List Ck)(gn cn:Nat)(egn:t.gn=gn)(ecn:t.cn=cn)(hgn:gn=gs.length)(hcn:cn=cs.length)(hgl:gn<=1000)(hcl:cn<=1000)(b1 b2 g1 g2 ae2:Bool)(hg1:rN (-1) gs=g1)(hg2:oH 0 cs=g2)(hall:(b1&&b2&&g1&&g2)=ae2)(w:World)(hG:bc w t.ga gs)(hC:aI w t.ca cs)(KP:CN 72 #[.agg (NN.aV p)] (.bool b1))(KH:CN 73 #[.agg (aS t.g)] (.bool b2)):ar 37 #[.agg (NN.aV p)] w (.bool ae2):=by
 have ZX:=h_ hgn;have ZY:=h_ hcn;have HAG:=h_ hG;have HAC:=h_ hC;have HVG:=h_ hg1;have HVC:=h_ hg2;have Wh:=h_ hall;clear hgn hcn hG hC hg1 hg2 hall;go_enter Tryz.func37,Tryz.ntmps37;go_upto_region 1 with fail
 generalize hw0:World.alloc _ _=v0;have hB:Bl w v0:=eT hw0;have hP:NN.aK v0 w.heap.size p:=by rw[<-hw0];exact NN.Has.new _ _
 clear hw0;obtain⟨bP,VF⟩:∃x,x=w.heap.size:=⟨_,rfl⟩;rw[<-VF]at hP|-;clear VF;have gq:=gQ ht.2;go_wp2_with (first|fail|(with_reducible refine NN.fK rfl _ rfl _ rfl hP hz ?_))
 refine az (KP.out _) fun v1 hb=>?_;replace hP:=hP.on hb;replace hB:=ai hB hb;clear hb;cases b1
 ·have hv:=Wh.out;go_wp2_with fail
  go_ret;exact⟨by rw[<-hv];rfl,hB⟩
 have rg:=n7 hP tt ht;go_wp2_with (first|fail|(with_reducible refine MZ (by with_unfolding_all rfl) _ rfl bP 15 rfl t.g rg gq ?_))
 refine az (KH.out _) fun v2 hb=>?_;replace hP:=hP.on hb;replace hB:=ai hB hb;clear hb rg;cases b2
 ·have hv:=Wh.out;go_wp2_with fail
  go_ret;exact⟨by rw[<-hv];rfl,hB⟩
 have c5:=r8 hP tt;rw[egn]at c5;generalize hga:t.ga=ga at*;generalize t.gc=gc at*;go_wp2_with fail
 clear c5;go_loopw [3,20] (fun m i wr=>∃k:Nat,k<=gn/\i=i_ k/\∃z:Int,m=i_ z/\Hid (rN z (gs.drop k)=g1)/\NN.aK wr bP p/\Bl w wr) (fun _ i _=>gn-(intOf i).toNat)
 case atStart=>exact⟨0,by omega,rfl,_,rfl,HVG,hP,hB⟩
 case round=>
  clear hP hB;obtain⟨k,hk,rfl,z,rfl,HZ,hP,hB⟩:=hrel;by_cases hlt:k<gn
  ·obtain⟨ab,ao,hae,VR,hc⟩:=(HAG.out.below hB) (by rw[<-ZX.out];omega);subst hae
   have hd:gs.drop k=gs.getD k oZ::gs.drop (k+1):=by
    have hk2:k<gs.length:=(by rw[<-ZX.out];exact hlt);rw[mT hk2,dC,aQ hk2];rfl
   have q0:=hc k (by rw[<-ZX.out];omega);rw[show gs[k]'(by rw[<-ZX.out];omega)=gs.getD k oZ by rw[dC,aQ (by rw[<-ZX.out];omega)];rfl]at q0;have hx:=HZ.out;rw[hd]at hx;clear hd HZ;generalize gs.getD k oZ=y at*;have HX:=h_ hx;clear hx hc;have hnew:=yz wr;have hb2:Bl wr ((wr.alloc (.cells #[i_ 0,i_ 0] 108)).setRow wr.heap.size (qQ y)):=below_setRow cu (au _) _;have hG:oV ((wr.alloc (.cells #[i_ 0,i_ 0] 108)).setRow wr.heap.size (qQ y)) wr.heap.size y:=Has.row hnew _;have hB2:=ai hB hb2;have hP2:=NN.aK.on hP hb2;have c0:=hG.c0;clear hG hB hb2 hP;cases t1:decide (y.h<=z)
   ·have HZ2:Hid (rN y.h (gs.drop (k+1))=g1):=h_ (by
     have:=HX.out;rw[show rN z (y::gs.drop (k+1))=(decide (z<y.h)&&rN y.h (gs.drop (k+1)))from rfl,aG (show z<y.h by have:=fc t1;omega),dG]at this;exact this)
    clear HX;obtain⟨yh,X8⟩:∃yh,yh=y.h:=⟨_,rfl⟩;rw[<-X8]at c0 t1 HZ2;clear X8;(go_wp2_with (with_reducible first|refine qa rfl _ rfl ab (ao+k*2) rfl y q0 ?_|refine pA rfl _ _ rfl _ y rfl rfl hnew ?_));go_roundw
    case rel=>exact⟨k+1,by omega,by go_num,yh,rfl,HZ2,hP2,hB2⟩
    case measure=>simp[intOf];omega
   ·have hgf:g1=false:=by
     rw[<-HX.out,show rN z (y::gs.drop (k+1))=(decide (z<y.h)&&rN y.h (gs.drop (k+1)))from rfl,aE (show¬z<y.h by have:=dX t1;omega),j']
    have hv:=Wh.out;rw[hgf]at hv;clear HX;(go_wp2_with (with_reducible first|refine qa rfl _ rfl ab (ao+k*2) rfl y q0 ?_|refine pA rfl _ _ rfl _ y rfl rfl hnew ?_));go_ret;exact⟨by rw[<-hv];simp,hB2⟩
  ·obtain rfl:k=gn:=by omega
   have e:g1=true:=by
    have:=HZ.out;rw[ZX.out,mE]at this;exact this.symm
   subst e;have c6:=sc hP tt;rw[ecn]at c6;generalize YY:t.ca=ca at*;generalize t.cc=cc at*;go_wp2_with fail
   clear c6;have hB':=hB;have hP':=hP;go_loopw [3,34] (fun m i wr=>∃k:Nat,k<=cn/\i=i_ k/\∃z:Int,m=i_ z/\Hid (oH z (cs.drop k)=g2)/\NN.aK wr bP p/\Bl w wr) (fun _ i _=>cn-(intOf i).toNat)
   case atStart=>exact⟨0,by omega,rfl,_,rfl,HVC,hP',hB'⟩
   case round=>
    clear hP' hB' hP hB;obtain⟨k,hk,rfl,z,rfl,HZ,hP,hB⟩:=hrel;by_cases hlt:k<cn
    ·obtain⟨ab,ao,hae,VR,hc⟩:=(HAC.out.below hB) (by rw[<-ZY.out];omega);subst hae
     have hd:cs.drop k=cs.getD k nD::cs.drop (k+1):=by
      have hk2:k<cs.length:=(by rw[<-ZY.out];exact hlt);rw[mT hk2,dC,aQ hk2];rfl
     have q0:=hc k (by rw[<-ZY.out];omega);rw[show cs[k]'(by rw[<-ZY.out];omega)=cs.getD k nD by rw[dC,aQ (by rw[<-ZY.out];omega)];rfl]at q0;have hx:=HZ.out;rw[hd]at hx;clear hd HZ;generalize cs.getD k nD=y at*;have HX:=h_ hx;clear hx hc;have z1:=sF q0.1;have z2:=wD q0.1;have z0:=wD (c:=nD) rfl;have hnew:=we wr;have hb2:=Bc (aA wr.heap.size wr) y;have hG:=xF wr y;have hB2:=ai hB hb2;have hP2:=NN.aK.on hP hb2;have c0:=hG.c0;clear hG hB hb2 hP;cases t1:decide (y.h<=z)
     ·have HZ2:Hid (oH y.h (cs.drop (k+1))=g2):=h_ (by
       have:=HX.out;rw[show oH z (y::cs.drop (k+1))=(decide (z<y.h)&&oH y.h (cs.drop (k+1)))from rfl,aG (show z<y.h by have:=fc t1;omega),dG]at this;exact this)
      clear HX;obtain⟨yh,X8⟩:∃yh,yh=y.h:=⟨_,rfl⟩;rw[<-X8]at c0 t1 HZ2;clear X8;(go_wp2_with (with_reducible first|refine rF rfl _ rfl ab (ao+k*33) rfl y q0.2 z1 ?_|refine qZ rfl _ _ rfl _ y rfl rfl z2 hnew z0 ?_));go_roundw
      case rel=>exact⟨k+1,by omega,by go_num,yh,rfl,HZ2,hP2,hB2⟩
      case measure=>simp[intOf];omega
     ·have hgf:g2=false:=by
       rw[<-HX.out,show oH z (y::cs.drop (k+1))=(decide (z<y.h)&&oH y.h (cs.drop (k+1)))from rfl,aE (show¬z<y.h by have:=dX t1;omega),j']
      have hv:=Wh.out;rw[hgf]at hv;clear HX;(go_wp2_with (with_reducible first|refine rF rfl _ rfl ab (ao+k*33) rfl y q0.2 z1 ?_|refine qZ rfl _ _ rfl _ y rfl rfl z2 hnew z0 ?_));go_ret;exact⟨by rw[<-hv];simp,hB2⟩
    ·obtain rfl:k=cn:=by omega
     have e:g2=true:=by
      have:=HZ.out;rw[ZY.out,mE]at this;exact this.symm
     subst e;have hv:=Wh.out;(go_wp2_with fail);go_ret;exact⟨by rw[<-hv];rfl,hB⟩
theorem Tk(p:NN.Pr)(hp:p.ok)(t:Tl)(tt:p.tl=t.C)(ht:t.ok)(gs:List Gt)(cs:List Ck)(hgn:t.gn=gs.length)(hcn:t.cn=cs.length)(hgl:t.gn<=1000)(hcl:t.cn<=1000)(w:World)(hG:bc w t.ga gs)(hC:aI w t.ca cs):ar 37 #[.agg (NN.aV p)] w (.bool (na p t.g gs cs)):=
 Ia p (NN.gT hp) t tt ht gs cs t.gn t.cn rfl rfl hgn hcn hgl hcl _ _ _ _ _ rfl rfl rfl w hG hC (h_ (NN.qD p)) (h_ (qD t.g ht.2))
open Ar (av Ok Ru aN)
structure Cm where
 h:Hd
 now:Int
def Vn:Cm:=⟨fi,0⟩
section
variable{w w':World}{k:Nat}{c:Cm}
variable{ops:Array Oper}{rest:List Oper}{o:Oper}{a:Act}{Q:Exit->Act->World->Prop}
end
def neg(cs:List Cm):Bool:=cs.any (fun c=>decide (c.now<0))
theorem Qg{w:World}{ops:Array Oper}{rest:List Oper}{o:Oper}{a:Act}{Q:Exit->Act->World->Prop}(hgd:o.guard=none)(ho:o.op=.build 32 #[(0,.const (i_ 545259519)),(1,.const (i_ 4)),(2,.const (i_ 10))])(hk:wpList Tryz.prog ops Q rest (a.put o.dst (.agg (NN.aV NN.Bq))) w):wpList Tryz.prog ops Q (o::rest) a w:=NN.Ku hgd ho hk
section
variable{w:World}{k:Nat}{e:En}
theorem cV.head(h:cV w k e):w.rangeAt k 0 (cP e.h):=by have:=j4 (A:=[]) (cs:=cP e.h) (C:=Lib.byteCells e.id++(i_ e.up::i_ e.ht::(NN.aa e.wk).toList)) (o:=0) (w:=w) (b:=k) (t:=60) h rfl;exact this
theorem cV.tail(h:cV w k e)(ho:e.ok):w.rangeAt k 100 (i_ e.up::i_ e.ht::(NN.aa e.wk).toList):=by have:=j4 (A:=cP e.h++Lib.byteCells e.id) (cs:=i_ e.up::i_ e.ht::(NN.aa e.wk).toList) (C:=[]) (o:=100) (w:=w) (b:=k) (t:=60) (by rw[dW,iS];exact h) (by simp[gQ ho.1,lj ho.2]);exact this
theorem cV.up(h:cV w k e)(ho:e.ok){z:Int}(hz:Hid (e.up=z)):w.cell? ⟨k,100,none⟩=some (i_ z):=by rw[<-hz.out];exact h.tail ho 0 _ rfl
theorem cV.ht(h:cV w k e)(ho:e.ok){z:Int}(hz:Hid (e.ht=z)):w.cell? ⟨k,101,none⟩=some (i_ z):=by rw[<-hz.out];exact h.tail ho 1 _ rfl
theorem qC(w:World)(e:En):cV ((w.alloc (.cells Tryz.zeroCells60 60)).setRow w.heap.size (dc e)) w.heap.size e:=Has.row (kp w) _
end
theorem qW(w:World)(T:TypeId)(z cs:Array Value):Bl w ((w.alloc (.cells z T)).setRow w.heap.size cs):=below_setRow cu (au _) _
theorem wP:∃i y,Tryz.prog.info? 3=some i/\i.zero=some y/\i.size=1/\i.bytes=8/\y.cells.size=1:=vU (by kernel_rfl) (by kernel_rfl) (by kernel_rfl)
variable{w:World}{ops:Array Oper}{rest:List Oper}{o:Oper}{a:Act}{Q:Exit->Act->World->Prop}
theorem Ua(hgd:o.guard=none)(s x:Operand)(ho:o.op=.call { callee:=.builtin .append,args:=#[s,x],argTypes:=#[49,49] })(v:Value)(n:Nat)(l:List Int)(hs:a.eval s=v)(hown:w.ownsRow 0 3 1 v n (l.map (Value.int .i64)))(g:Nat)(z:Int)(hx:a.eval x=.slice (bs g) 1 1)(hz:w.cell? ⟨g,0,none⟩=some (i_ z))(hn:n<=900)(h:∀v' w',w'.ownsRow 0 3 1 v' (n+1) ((l++[z]).map (Value.int .i64))->w.grownBy w' v.ownBlock->(v'.ownBlock=v.ownBlock\/v'.ownBlock=some w.heap.size)->wpList Tryz.prog ops Q rest (a.put o.dst v') w'):wpList Tryz.prog ops Q (o::rest) a w:=by
 obtain⟨i,y,hi,hzz,h1,h2,h3⟩:=wP;refine wpList_append_own_at (P:=Tryz.prog) w hgd s x 49 ho 0 3 i y 1 8 Tryz.underlying49 hi hzz h1 h2 h3 (by decide) v n _ hs hown ⟨g,0,none⟩ 1 1 [i_ z] hx rfl (fun j u hj=>?_) (fun u hu=>?_) (by unfold maxLen;omega) (by omega) (bB _) (fun v' w' g1 g2 _ g4=>h v' w' (by rw[ic];exact g1) g2 g4)
 ·match j,hj with
  | 0,hj=>rw[jK,cy,hz];exact hj
  | j+1,hj=>simp at hj
 ·obtain rfl:u=i_ z:=by simpa using hu
  rfl
theorem Cb{base:Nat}{T:TypeId}{size:Nat}{a:Option Addr}{n c m:Nat}{xs:List Value}(h:w.ownsRow base T size (.slice a n c) m xs)(hm:0<m):m<=c:=by
 rcases h.2 with⟨_,h0⟩|⟨g,c2,cur,e,_,_,h3,_⟩
 omega;cases e;exact h3
theorem Uk(hgd:o.guard=none)(s x:Operand)(ho:o.op=.call { callee:=.builtin .append,args:=#[s,x],argTypes:=#[68,68] })(hty:o.type=68)(base g:Nat)(y:Hd)(hy:y.ok)(hs:a.eval s=.slice (bs g) 1 1)(hg:Has w g (aS y) 30)(hbg:base<=g)(hbase:base<=w.heap.size)(ad:Option Addr)(m c:Nat)(z:List Hd)(hx:a.eval x=.slice ad m c)(hz:z.length=m)(hnil:ad=none->m=0/\c=0)(hL:bo w ad z)(hn:m<=900)(h:∀ad' c' w',bo w' ad' (y::z)->ad'≠none->w.grownBy w' (some g)->m+1<=c'->wpList Tryz.prog ops Q rest (a.put o.dst (.slice ad' (m+1) c')) w'):wpList Tryz.prog ops Q (o::rest) a w:=by
 obtain⟨i,y0,hi,hzz,h1,h2,h3⟩:=Eg;have hown:w.ownsRow base 30 68 (.slice (bs g) 1 1) 1 (cP y):=⟨by rw[gQ hy],.inr ⟨g,1,aS y,rfl,hbg,hg,au _,by decide,jI hy,by show((cP y).toArray.toList).take 68=_;rw[<-gQ hy];simp⟩⟩;by_cases h0:0<m
 ·obtain⟨ab,ao,rfl,hlt,hc⟩:=hL (by omega);have hok:∀q∈z,q.ok:=fun q hq=>by obtain⟨i,hi,e⟩:=List.mem_iff_getElem.1 hq;rw[<-e];exact(hc i hi).1
  refine wpList_append_own_at (P:=Tryz.prog) w hgd s x 68 ho base 30 i y0 68 96 Tryz.underlying68 hi hzz h1 h2 h3 (by decide) _ 1 _ hs hown ⟨ab,ao,none⟩ m c (lN z) hx ?_ (fun j u hj=>?_) (fun u hu=>?_) (by unfold maxLen;omega) (by omega) hbase (fun v' w' g1 g2 _ _=>?_);rw[<-hz];exact zV cP 68 z (fun q hq=>gQ (hok q hq))
  ·rw[jK]
   exact E9 cP 68 (by decide) z (fun q hq=>gQ (hok q hq)) (fun i q hi=>by
    obtain⟨e1,e2⟩:=bk.1 hi;rw[<-e2];exact(hc i e1).2) j u hj
  exact qE cP z (fun q _=>tX q) u hu
  ·have hok2:∀q∈y::z,q.ok:=fun q hq=>by
    rcases cJ.1 hq with rfl|hq
    exact hy;exact hok q hq
   obtain⟨a',c',rfl,h4⟩:=Pm (hs:=y::z) (n:=1+m) g1 (by simp;omega) hok2;rw[gx];exact h a' c' w' h4 (fun e=>by obtain⟨_,_,e2,_⟩:=h4 (by simp);rw[e]at e2;cases e2) g2 (by have:=Cb g1 (by omega);omega)
 ·obtain rfl:z=[]:=gE (by omega);have hm0:m=0:=by omega
  have hHA:bo w (bs g) [y]:=fun _=>⟨g,0,rfl,Has.lt hg,fun i hi=>by
   obtain rfl:i=0:=by simpa using hi
   refine⟨hy,?_⟩;have:=j4 (A:=[]) (cs:=cP y) (C:=[]) (o:=0) (w:=w) (b:=g) (t:=30) (by rw[dW];exact hg) rfl;exact this⟩
  cases ad with
  | none=>
   obtain⟨_,rfl⟩:=hnil rfl;subst hm0;have hrun:=run_append_owned_none (P:=Tryz.prog) (w:=w) base 68 68 30 i 68 Tryz.underlying68 hi _ 1 _ hown;refine gk hgd fun _ hK=>?_
   unfold Oper.wp execOp;simp only[ho,hty,resolve,invoke,builtin,aB,cr,aM,im,bZ,cx,hs,hx,hrun];exact hK _ _ (h _ _ w hHA (fun e=>by cases e) ⟨rfl,rfl,rfl,au _,fun _ _ _=>rfl⟩ (au _))
  | some ad=>
   subst hm0;refine wpList_append_own_at (P:=Tryz.prog) w hgd s x 68 ho base 30 i y0 68 96 Tryz.underlying68 hi hzz h1 h2 h3 (by decide) _ 1 _ hs hown ad 0 c [] hx rfl (fun j u hj=>by simp at hj) (fun u hu=>by cases hu) (by unfold maxLen;omega) (by omega) hbase (fun v' w' g1 g2 _ _=>?_);obtain⟨a',c',rfl,h4⟩:=Pm (hs:=[y]) (n:=1+0) (by rw[dW]at g1;show w'.ownsRow _ _ _ _ _ (cP y++[]);rw[dW];exact g1) rfl (fun q hq=>(kD.1 hq).symm▸hy);exact h a' c' w' h4 (fun e=>by obtain⟨_,_,e2,_⟩:=h4 (by simp);rw[e]at e2;cases e2) g2 (by have:=Cb g1 (by omega);omega)
end An
namespace An
open Go.RowKit Mem Sc NN.VI
open Ar (av Ru aN)
def km(w:World)(B:Nat)(F:Nat->Prop)(b:Nat)(r:Ru)(M:List av):Prop:=
 B<=w.heap.size/\(∀i,F i->B<=i/\i<w.heap.size)/\F b/\∃p t vH vI vA vW ws,AI w (fun i=>i<B) b p t r.gs r.cs r.room vH vI vA vW (M.map (av.h r.g)) (M.map fun e=>(e.h r.g).id) (M.map av.up) ws/\Alike p t r/\ws=M.map (fun e=>iK r e.hs)/\(∀i,vH.ownBlock=some i->F i)/\(∀i,vI.ownBlock=some i->F i)/\(∀i,vA.ownBlock=some i->F i)/\(∀i,vW.ownBlock=some i->F i)
section
variable{w w':World}{B:Nat}{F G:Nat->Prop}{b:Nat}{r:Ru}{M:List av}
theorem km.on(h:km w B F b r M)(k:Kp G w w')(hG:∀i,F i->¬G i)(hB:∀i,G i->B<=i):km w' B F b r M:=by
 obtain⟨h0,h1,h2,p,t,vH,vI,vA,vW,ws,h3,h4,h5,g1,g2,g3,g4⟩:=h;refine⟨ax h0 k.size,fun i hi=>⟨(h1 i hi).1,b_ (h1 i hi).2 k.size⟩,h2,p,t,vH,vI,vA,vW,ws,h3.on k ?_,h4,h5,g1,g2,g3,g4⟩;rintro i (hi|rfl|hi|hi|hi|hi);exact fun hg=>absurd (hB i hg) (by omega)
 exact hG _ h2;exact hG _ (g1 i hi);exact hG _ (g2 i hi);exact hG _ (g3 i hi);exact hG _ (g4 i hi)
theorem km.below(h:km w B F b r M)(hb:Bl w w'):km w' B F b r M:=h.on (G:=fun _=>False) (Kp.of hb) (fun _ _ hf=>hf) fun _ hf=>hf.elim
theorem km.wide(h:km w B F b r M)(hF:∀i,F i->G i)(hG:∀i,G i->B<=i/\i<w.heap.size):km w B G b r M:=by obtain⟨h0,_,h2,p,t,vH,vI,vA,vW,ws,h3,h4,h5,g1,g2,g3,g4⟩:=h;exact⟨h0,hG,hF _ h2,p,t,vH,vI,vA,vW,ws,h3,h4,h5,fun i hi=>hF _ (g1 i hi),fun i hi=>hF _ (g2 i hi),fun i hi=>hF _ (g3 i hi),fun i hi=>hF _ (g4 i hi)⟩
end
variable{w:World}{B b room base n:Nat}{cs:Array Value}{T:TypeId}{u vH vI vA vW v:Value}
theorem Bd(h:ku B cs T u w):w.ownsRow 0 T cs.size u 1 cs.toList:=by obtain⟨g,rfl,h1,h2⟩:=h;exact⟨by simp,.inr ⟨g,1,cs,rfl,bB _,h2,au _,by decide,by simp,by rw[Nat.one_mul,gB (by simp)]⟩⟩
theorem uR(h:ku B cs T u w):∀i,u.ownBlock=some i->B<=i/\i<w.heap.size:=by obtain⟨g,rfl,h1,h2⟩:=h;intro i hi;cases hi;exact⟨h1,h2.lt⟩
theorem Jt(p:NN.Pr)(hp:p.ok)(h1:p.one)(t:Tl)(tt:p.tl=t.C)(ht:t.ok)(gs:List Gt)(cs:List Ck)(hgn:t.gn=gs.length)(hcn:t.cn=cs.length)(room:Int)(w0 w:World)(h0:Bl w0 w)(hG:bc w0 t.ga gs)(hC:aI w0 t.ca cs):aU 39 #[.agg (NN.aV p),i_ room] w fun e w'=>∃b,e=.returned (af b)/\km w' w0.heap.size (fun i=>w.heap.size<=i/\i<w'.heap.size) b ⟨p,t.g,gs,cs,fZ room⟩ [aN]/\Bl w w':=by
 refine(zL p hp t tt ht t.g rfl ht.2 t.g.id (lJ _) room w (h_ fun w' _=>mK t.g ht.2 w')).mono ?_;rintro e w' ⟨u,rfl,⟨b,cs',rfl,hb0,hh,vH,vI,vA,vW,rfl,rH,rI,rA,z,hz,rW⟩,hb⟩;have sH:=Bd rH;have sI:=Bd rI;have sA:=Bd rA;have sW:=Bd rW;rw[jI ht.2]at sH;rw[show(ae t.g.id).size=32 by simp[ae,lJ]]at sI;rw[NN.jE]at sW;have hs0:=h0.size;have hb2:Bl w0 w':=h0.trans (hb.mono hs0);have no:∀{cs:Array Value}{T:TypeId}{u:Value},ku w.heap.size cs T u w'->∀k,u.ownBlock=some k->¬k<w0.heap.size:=fun hr k hk hlt=>absurd (uR hr k hk).1 (by omega)
 refine⟨b,rfl,⟨ax hs0 hb.size,fun i hi=>⟨ax hs0 hi.1,hi.2⟩,⟨hb0,hh.lt⟩,p,t,vH,vI,vA,vW,[z],?_,⟨rfl,rfl,rfl,rfl,rfl,rfl⟩,by rw[hz.2];rfl,uR rH,uR rI,uR rA,uR rW⟩,hb⟩
 exact{
  has:=hh,VQ:=hp,one:=h1,tt:=tt,tok:=ht,gn:=hgn,cn:=hcn
  WS:=by simpa[Ar.tL,aN,aS]using sH
  Xa:=by simpa[Ar.tL,aN,lP]using sI
  WT:=by simpa[aN]using sA
  Xb:=by simpa using sW
  VL:=JL (hG.below hb2) fun h0 ad ha=>by
   obtain⟨ab,ao,ha',hlt,_⟩:=hG h0;rw[ha']at ha;cases ha;exact hlt
  checks:=P3 (hC.below hb2) fun h0 ad ha=>by
   obtain⟨ab,ao,ha',hlt,_⟩:=hC h0;rw[ha']at ha;cases ha;exact hlt
  nb:=by omega
  nH:=no rH,nI:=no rI,nA:=no rA,nW:=no rW
  lt:=fun i hi=>b_ hi hb2.size
  du:=fun h hh=>by
   obtain rfl:h=t.g:=by simpa[Ar.tL,aN]using hh
   exact ht.2
  name:=fun l hl=>by
   obtain rfl:l=t.g.id:=by simpa[Ar.tL,aN]using hl
   exact lJ _
  small:=fun x hx=>by
   obtain rfl:x=z:=by simpa using hx
   exact hz.1 }
variable{p:NN.Pr}
theorem FJ(h:Has w b (lU p vH vI vA vW room) 72)(hp:p.ok):w.cell? ⟨b,84,none⟩=some vI:=by rw[Has.cell h 84];unfold lU Fy;rw[dg,dE (by rw[nc hp];omega),nc hp];rfl
theorem qf{size:Nat}{A cs C:List Value}(h:w.ownsRow base T size v n (A++(cs++C)))(hn:0<n):∃g c,v=.slice (bs g) n c/\w.rangeAt g A.length cs:=by
 rcases h.2 with⟨_,h0⟩|⟨g,c,cur,rfl,_,h2,_,_,_,h6⟩
 omega
 ·refine⟨g,c,rfl,fun j u hu=>?_⟩
  have e:(cur.toList.take (n*size))[A.length+j]?=some u:=by
   rw[h6,dE (by omega),lK,dm (bk.1 hu).1];exact hu
  rw[Has.cell (show Has w g cur T from h2),<-Array.getElem?_toList];rw[kL]at e;split at e;exact e;cases e
theorem wQ{α:Type}(f:α->List Value)(size:Nat):∀(l:List α)(_:∀x∈l,(f x).length=size)(i:Nat)(x:α),l[i]?=some x->∃A C,l.flatMap f=A++(f x++C)/\A.length=i*size
 | y::l,_,0,x,h=>⟨[],l.flatMap f,by cases h;simp,by simp⟩
 | y::l,hf,i+1,x,h=>by
  obtain⟨A,C,h1,h2⟩:=wQ f size l (fun x hx=>hf x (iL _ hx)) i x (by simpa using h);exact⟨f y++A,C,by simp[h1],by rw[aT,hf y nT,h2,fN];omega⟩
theorem I2{ids:List (List UInt8)}(h:w.ownsRow 0 28 32 v ids.length (ids.flatMap Lib.byteCells))(h32:∀l∈ids,l.length=32){k:Nat}{x:List UInt8}(hx:ids[k]?=some x):∃g c,v=.slice (bs g) ids.length c/\w.rangeAt g (k*32) (Lib.byteCells x):=by obtain⟨A,C,e,hA⟩:=wQ Lib.byteCells 32 ids (fun l hl=>by rw[Lib.byteCells_length,h32 l hl]) k x hx;rw[e]at h;have:=(bk.1 hx).1;obtain⟨g,c,e1,e2⟩:=qf h (by omega);rw[hA]at e2;exact⟨g,c,e1,e2⟩
def idx(ids:List (List UInt8))(id:List UInt8):Int:=match ids.findIdx? (· == id)with|some i=>(i:Int)|none=>-1
theorem zR(p:NN.Pr)(hp:p.ok)(vH vI vA vW:Value)(room b:Nat)(ids:List (List UInt8))(n:Nat)(hn:n=ids.length)(hl:n<=4611686018427387904)(hpos:0<n)(h32:∀l∈ids,l.length=32)(id:List UInt8)(i32:id.length=32)(z:Int)(hz:idx ids id=z)(w:World)(hA:Has w b (lU p vH vI vA vW room) 72)(hI:w.ownsRow 0 28 32 vI ids.length (ids.flatMap Lib.byteCells)):ar 77 #[af b,.agg (ae id)] w (i_ z):=by
 obtain⟨x0,hx0⟩:∃x,ids[0]?=some x:=⟨_,aQ (by rw[<-hn];exact hpos)⟩;obtain⟨g,c,rfl,hr0⟩:=I2 hI h32 hx0;clear hr0 hx0;rw[<-hn]at hA hI;have HN:=h_ hn;have HZ:=h_ hz;have Xv:=FJ hA hp;have s1:(ae id).size=32:=by rw[nF];exact i32
 have HI:=h_ fun(w':World)(hb:Bl w w')=>aF hI (Kp.of (F:=fun _=>False) hb) fun _ _ hf=>hf
 clear hn hz hI hA;go_enter Tryz.func77,Tryz.ntmps77;go_upto_region 1 with fail
 generalize hw0:World.alloc _ _=v0;have hB:Bl w v0:=eT hw0;have hX:Has v0 w.heap.size (ae id) 28:=by rw[<-hw0];exact Has.new _ _
 have Xv:v0.cell? ⟨b,84,none⟩=some (.slice (bs g) n c):=by rw[<-Xv];exact iZ (hB.block b (block_lt_of_cell Xv))
 clear hw0;obtain⟨bX,hbX⟩:∃x,x=w.heap.size:=⟨_,rfl⟩;rw[<-hbX]at hX|-;clear hbX;have o1:=oD id;have ng:Hid (∀d os,(Sort.grow (redrawn v0 d) os).cell? ⟨b,84,none⟩=some (.slice (bs g) n c)):=h_ (cell_regrown Xv);go_wp2_with fail
 go_loopw [12] (fun i wr=>∃k:Nat,k<=n/\i=i_ k/\Hid (ids.findIdx? (· == id)=((ids.drop k).findIdx? (· == id)).map (· + k))/\Has wr bX (ae id) 28/\Bl w wr) (fun i _=>n-(intOf i).toNat)
 case atStart=>exact⟨0,by omega,rfl,h_ (by simp),hX,hB⟩
 case round=>
  clear hX hB Xv;obtain⟨k,hk,rfl,HF,hX,hB⟩:=hrel;by_cases hlt:k<n
  ·obtain⟨x,hx⟩:∃x,ids[k]?=some x:=⟨_,aQ (by rw[<-HN.out];exact hlt)⟩;have x32:x.length=32:=h32 x (ee hx);have hI:=HI.out _ hB;rw[HN.out]at hI;obtain⟨g2,c2,e2,hr⟩:=I2 hI h32 hx;obtain rfl:g=g2:=by cases e2;rfl
   clear e2 hI;have th:=lj x32
   have hd:ids.drop k=x::ids.drop (k+1):=by
    rw[mT (by rw[<-HN.out];exact hlt)];rw[aQ (by rw[<-HN.out];exact hlt)]at hx;cases hx;rfl
   have hF:=HF.out;rw[hd,List.findIdx?_cons]at hF;have HR:=h_ hr;clear hr hx hd;cases he:(x==id)
   ·have qn:=wV x id x32 i32 false he;rw[he]at hF
    have Xk:Hid (ids.findIdx? (· == id)=((ids.drop (k+1)).findIdx? (· == id)).map (· + (k+1))):=h_ (by
     rw[hF,ah Bool.false_ne_true,Option.map_map];exact aJ (fun f=>Option.map f _) (funext fun i=>by show i+1+k=i+(k+1);omega))
    clear hF he;have ht:=HR.out;have sx:(ae x).size=32:=(by rw[nF];exact x32);have ox:=oD x
    go_upto_region 4 with(first
     | (with_reducible refine jL rfl _ rfl g (k*32) rfl x ht th ?_)
     | (with_reducible refine nt rfl _ _ rfl _ (ae x) (ae x) rfl rfl rfl sx ox h0 (er wr _) rfl ?_))
    generalize hw4:World.setRow _ _ _=v3;have hb2:Bl wr v3:=dZ hw4;have hE:Has v3 wr.heap.size (ae x) 28:=(by rw[<-hw4];exact Has.row (er wr _) _);replace hX:=dz hb2 hX hX.lt;replace hB:=ai hB hb2;clear hw4 hb2 ht;obtain⟨bE,W5⟩:∃b,b=wr.heap.size:=⟨_,rfl⟩;rw[<-W5]at hE|-;clear W5
    go_wp2_with (first
     | (with_reducible refine oM rfl _ rfl _ rfl _ hE sx ?_)
     | (with_reducible refine oM rfl _ rfl _ rfl _ hX s1 ?_))
    go_roundw
    case rel=>exact⟨k+1,by omega,rfl,Xk,hX,hB⟩
    case measure=>simp[intOf];omega
   ·have qn:=wV x id x32 i32 true he
    have hzk:z=(k:Int):=by
     rw[<-HZ.out];unfold idx;rw[hF,he];simp
    subst hzk;clear hF he;have ht:=HR.out;have sx:(ae x).size=32:=(by rw[nF];exact x32);have ox:=oD x
    go_upto_region 4 with(first
     | (with_reducible refine jL rfl _ rfl g (k*32) rfl x ht th ?_)
     | (with_reducible refine nt rfl _ _ rfl _ (ae x) (ae x) rfl rfl rfl sx ox h0 (er wr _) rfl ?_))
    generalize hw4:World.setRow _ _ _=v3;have hb2:Bl wr v3:=dZ hw4;have hE:Has v3 wr.heap.size (ae x) 28:=(by rw[<-hw4];exact Has.row (er wr _) _);replace hX:=dz hb2 hX hX.lt;replace hB:=ai hB hb2;clear hw4 hb2 ht;obtain⟨bE,W5⟩:∃b,b=wr.heap.size:=⟨_,rfl⟩;rw[<-W5]at hE|-;clear W5
    go_wp2_with (first
     | (with_reducible refine oM rfl _ rfl _ rfl _ hE sx ?_)
     | (with_reducible refine oM rfl _ rfl _ rfl _ hX s1 ?_))
    go_ret;exact⟨rfl,hB⟩
  ·have hzk:z = -1:=by
    rw[<-HZ.out];unfold idx;rw[HF.out,kQ (by rw[<-HN.out];omega)];rfl
   subst hzk;go_wp2_with fail
   go_ret;exact⟨rfl,hB⟩
theorem AE(r:Ru)(M:List av)(id:List UInt8):idx (M.map fun e=>(e.h r.g).id) id=PR (Ar.oA r.g M id):=by unfold idx PR Ar.oA;rw[List.findIdx?_map];rfl
variable{F:Nat->Prop}{r:Ru}{M:List av}
theorem Bh(h:km w B F b r M)(hpos:0<M.length)(hl:M.length<=1000)(id:List UInt8)(i32:id.length=32):ar 77 #[af b,.agg (ae id)] w (i_ (PR (Ar.oA r.g M id))):=by
 obtain⟨_,_,_,p,t,vH,vI,vA,vW,ws,h3,_⟩:=h;have hz:=AE r M id;have hn:M.length=(M.map fun e=>(e.h r.g).id).length:=by rw[dS]
 have h32:=h3.name;have hA:=h3.has;have hI:=h3.Xa;have hp:=h3.VQ;clear h3;generalize(M.map fun e=>(e.h r.g).id)=ids at*;generalize PR (Ar.oA r.g M id)=z at*;generalize M.length=n at*;have hl2:n<=4611686018427387904:=ax hl (by decide);exact zR p hp vH vI vA vW r.room b ids n hn hl2 hpos h32 id i32 z hz w hA hI
open Ar (Ok Row)
theorem RC{ops:Array Oper}{rest:List Oper}{o:Oper}{a:Act}{Q:Exit->Act->World->Prop}(hgd:o.guard=none)(s x:Operand)(ho:o.op=.call { callee:=.builtin .append,args:=#[s,x],argTypes:=#[49,49] })(hty:o.type=49)(base g:Nat)(z:Int)(hs:a.eval s=.slice (bs g) 1 1)(hg:Has w g #[i_ z] 3)(hbg:base<=g)(hbase:base<=w.heap.size)(v:Value)(m:Nat)(l:List Int)(hx:a.eval x=v)(hv:w.ownsRow base 3 1 v m (l.map (Value.int .i64)))(hn:m<=900)(h:∀v' w',w'.ownsRow base 3 1 v' (m+1) ((z::l).map (Value.int .i64))->w.grownBy w' (some g)->wpList Tryz.prog ops Q rest (a.put o.dst v') w'):wpList Tryz.prog ops Q (o::rest) a w:=by
 obtain⟨i,y0,hi,hzz,h1,h2,h3⟩:=wP;have hown:w.ownsRow base 3 1 (.slice (bs g) 1 1) 1 [i_ z]:=⟨rfl,.inr ⟨g,1,#[i_ z],rfl,hbg,hg,au _,by decide,rfl,rfl⟩⟩;obtain⟨hlen,⟨rfl,hm0⟩|⟨g2,c,cur,rfl,q1,q2,q3,q4,q5,q6⟩⟩:=hv
 ·subst hm0;obtain rfl:l=[]:=by simpa using hlen
  have hrun:=run_append_owned_none (P:=Tryz.prog) (w:=w) base 49 49 3 i 1 Tryz.underlying49 hi _ 1 _ hown;refine gk hgd fun _ hK=>?_
  unfold Oper.wp execOp;simp only[ho,hty,resolve,invoke,builtin,aB,cr,aM,im,bZ,cx,hs,hx,hrun];exact hK _ _ (h _ w hown ⟨rfl,rfl,rfl,au _,fun _ _ _=>rfl⟩)
 refine wpList_append_own_at (P:=Tryz.prog) w hgd s x 49 ho base 3 i y0 1 8 Tryz.underlying49 hi hzz h1 h2 h3 (by decide) _ 1 _ hs hown ⟨g2,0,none⟩ m c (l.map (Value.int .i64)) hx hlen (fun j u hj=>?_) (fun u hu=>?_) (by unfold maxLen;omega) (by omega) hbase (fun v' w' g1 g3 _ _=>?_);rw[jK,cy,Has.cell (show Has w g2 cur 3 from q2),<-Array.getElem?_toList];rw[<-q6,kL]at hj;split at hj;exact hj;cases hj;obtain⟨t,_,rfl⟩:=jQ.1 hu;rfl;rw[gx]at g1;exact h v' w' g1 g3
theorem Ah(h:Has w b (lU p vH vI vA vW room) 72)(hp:p.ok):w.cell? ⟨b,85,none⟩=some vA:=by rw[Has.cell h 85];unfold lU Fy;rw[dg,dE (by rw[nc hp];omega),nc hp];rfl
variable{l:List Int}
theorem qV(h:w.ownsRow base 3 1 v n (l.map (Value.int .i64))){k:Nat}{x:Int}(hx:l[k]?=some x):∃g c,v=.slice (bs g) n c/\w.cell? ⟨g,k,none⟩=some (i_ x):=by
 have hk:=(bk.1 hx).1;obtain⟨hlen,⟨rfl,hm0⟩|⟨g2,c,cur,rfl,q1,q2,q3,q4,q5,q6⟩⟩:=h;rw[dS]at hlen;omega
 ·refine⟨g2,c,rfl,?_⟩;have e:(cur.toList.take (n*1))[k]?=some (Value.int .i64 x):=by rw[q6,eK,hx];rfl
  rw[Has.cell (show Has w g2 cur 3 from q2),<-Array.getElem?_toList];rw[kL]at e;split at e;exact e;cases e
def Left(M:List av)(L l:List Int)(k:Int)(m:Nat):Prop:=∃L0,Row M k L0/\L0++l=L/\l.length=m
theorem Left.done{L:List Int}{k:Int}{m:Nat}(h:Left M L l k m)(hk:k = -1):l=L/\m=L.length:=by
 obtain⟨L0,h1,h2,h3⟩:=h;rcases h1.inv with⟨_,rfl⟩|⟨j,_,_,h4,_⟩
 obtain rfl:l=L:=h2;exact⟨rfl,h3.symm⟩;omega
theorem Left.next(hM:Ok r M){L l:List Int}{k:Int}{m:Nat}(h:Left M L l k m)(hk:k ≠ -1):∃(j:Nat)(d:av),k=(j:Int)/\M[j]?=some d/\-1<=d.up/\d.up<(j:Int)/\m+1<=L.length/\Left M L ((j:Int)::l) d.up (m+1):=by
 obtain⟨L0,h1,h2,h3⟩:=h;rcases h1.inv with⟨h4,_⟩|⟨j,d,L',rfl,h4,h5,rfl⟩
 exact absurd h4 hk
 ·have hu:-1<=d.up/\d.up<(j:Int):=by
   rcases hM.ahead h4 with⟨rfl,rfl⟩|⟨i,a,h,q1,_,q3,_⟩
   simp[Ar.aN];omega
  refine⟨j,d,rfl,h4,hu.1,hu.2,?_,L',h5,by rw[<-h2,iS];rfl,by rw[fP,h3]⟩;rw[<-h2,aT,aT,j7];omega
theorem Is(p:NN.Pr)(hp:p.ok)(vH vI vA vW:Value)(room b:Nat)(r:Ru)(M:List av)(hM:Ok r M)(hl:M.length<=900)(i:Nat)(e:av)(he:M[i]?=some e)(L:List Int)(hL:Row M (i:Int) L)(n:Nat)(hn:n=M.length)(w:World)(hA:Has w b (lU p vH vI vA vW room) 72)(hI:w.ownsRow 0 3 1 vA n ((M.map av.up).map (Value.int .i64))):aU 66 #[af b,i_ i] w fun r w'=>∃(v:Value),r=.returned v/\w'.ownsRow w.heap.size 3 1 v L.length (L.map (Value.int .i64))/\Bl w w':=by
 obtain⟨g,c,rfl,hr0⟩:=qV hI (k:=i) (x:=e.up) (by rw[eK,he];rfl);clear hr0;have c85:=Ah hA hp;have HI:=h_ fun(w':World)(hb:Bl w w')=>aF hI (Kp.of (F:=fun _=>False) hb) fun _ _ hf=>hf
 have HC:=h_ fun(w':World)(hb:Bl w w')=>(iZ (hb.block b (block_lt_of_cell c85))).trans c85
 have HN:=h_ hn;have HS:Hid (Left M L [] (i:Int) 0):=h_ ⟨L,hL,dW _,rfl⟩
 have hL9:L.length<=900:=by
  have:=hL.len hM he;have:=(hM.chain i e he).1;have:=(bk.1 he).1;omega
 have HL:=h_ hL9;clear hn hI hA c85 he hL9 hL;go_enter Tryz.func66,Tryz.ntmps66;go_wp2_with fail
 go_loopw [5,6] (fun v i wr=>∃(cv:Value)(k:Int)(l:List Int)(m:Nat),v=cv/\i=i_ k/\Hid (Left M L l k m/\-1<=k)/\Hid (wr.ownsRow w.heap.size 3 1 cv m (l.map (Value.int .i64)))/\Bl w wr) (fun _ i _=>(intOf i+1).toNat)
 case atStart=>exact⟨_,(i:Int),[],0,rfl,rfl,h_ ⟨HS.out,by omega⟩,h_ ⟨rfl,.inl ⟨rfl,rfl⟩⟩,cg⟩
 case round=>
  obtain⟨cv,k,l,m,rfl,rfl,HK,HV,hB⟩:=hrel;by_cases hk:k = -1
  ·have hV:=HV.out;obtain⟨e1,e2⟩:=HK.out.1.done hk;rw[e1,e2]at hV;subst hk;clear e1 e2;go_wp2_with fail
   go_ret;exact⟨_,rfl,hV,hB⟩
  ·obtain⟨j,d,rfl,hd,l2,l3,l4,l5⟩:=HK.out.1.next hM hk;have hjn:j<n:=by rw[HN.out];exact(bk.1 hd).1
   have YE:m<=900:=by have:=HL.out;omega
   have hk0:(0:Int)<=(j:Int):=by omega
   have hmk:=fun w=>sj w (j:Int)
   have V6:Hid (Left M L ((j:Int)::l) d.up (m+1)/\-1<=d.up):=h_ ⟨l5,l2⟩;have HM:Hid ((intOf (i_ d.up)+1).toNat<(intOf (i_ j)+1).toNat):=h_ (by simp[intOf];omega);have HD:Hid ((M.map av.up)[j]?=some d.up):=h_ (by rw[eK,hd];rfl);have HM9:=h_ YE;clear hk l2 l3 l4 l5 hd YE;generalize d.up=z at*;have hb1:Bl wr (wr.alloc (.cells #[i_ j] 3)):=cu;have hg1:Has (wr.alloc (.cells #[i_ j] 3)) wr.heap.size #[i_ j] 3:=Has.new _ _;have hV1:=aF HV.out (Kp.of (F:=fun _=>False) hb1) fun _ _ hf=>hf
   have hs1:=hB.size;have hs2:=ax hs1 hb1.size;go_upto_region 4 with((refine RC rfl _ _ rfl rfl w.heap.size wr.heap.size (j:Int) rfl hg1 hs1 hs2 _ m l rfl hV1 HM9.out ?_);intro v' w2 hown hgr)
   have hB2:Bl w w2:=(ai hB hb1).trans (vi hgr hs1 hs2);have c1:=HC.out _ hB2;obtain⟨g2,c2,e2,hr⟩:=qV (HI.out _ hB2) HD.out;obtain rfl:g=g2:=by cases e2;rfl
   clear e2 hb1 hg1 hV1 hs1 hs2 hgr hmk;have HO:=h_ hown;clear hown;go_wp2_with fail
   go_roundw
   case rel=>exact⟨_,z,(j:Int)::l,m+1,rfl,rfl,V6,HO,hB2⟩
   case measure=>exact HM.out
theorem OW(h:km w B F b r M)(hM:Ok r M)(hl:M.length<=900)(i:Nat)(e:av)(he:M[i]?=some e)(L:List Int)(hL:Row M (i:Int) L):aU 66 #[af b,i_ i] w fun r w'=>∃(v:Value),r=.returned v/\w'.ownsRow w.heap.size 3 1 v L.length (L.map (Value.int .i64))/\Bl w w':=by obtain⟨_,_,_,p,t,vH,vI,vA,vW,ws,h3,_⟩:=h;have hA:=h3.has;have hI:=h3.WT;have hp:=h3.VQ;clear h3;rw[dS]at hI;exact Is p hp vH vI vA vW r.room b r M hM hl i e he L hL M.length rfl w hA hI
end An
namespace An
open Go.RowKit Mem Sc NN.VI
open Ar (av Ru aN Ok)
variable{w:World}{b:Nat}
theorem ue{p:NN.Pr}{vH vI vA vW:Value}{room:Nat}(h:Has w b (lU p vH vI vA vW room) 72)(hp:p.ok):w.cell? ⟨b,83,none⟩=some vH:=by rw[Has.cell h 83];unfold lU Fy;rw[dg,dE (by rw[nc hp];omega),nc hp];rfl
theorem wO{v:Value}{hs:List Hd}(h:w.ownsRow 0 30 68 v hs.length (hs.flatMap cP))(hok:∀x∈hs,x.ok){k:Nat}{x:Hd}(hx:hs[k]?=some x):∃g c,v=.slice (bs g) hs.length c/\w.rangeAt g (k*68) (cP x):=by obtain⟨A,C,e,hA⟩:=wQ cP 68 hs (fun l hl=>gQ (hok l hl)) k x hx;rw[e]at h;have:=(bk.1 hx).1;obtain⟨g,c,e1,e2⟩:=qf h (by omega);rw[hA]at e2;exact⟨g,c,e1,e2⟩
def tC(g:Hd)(M:List av)(k:Int)(hs:List Hd):Prop:=(k = -1/\hs=[])\/∃(j:Nat)(d:av),k=(j:Int)/\M[j]?=some d/\hs=g::d.hs
variable{r:Ru}{M:List av}
theorem PE(hM:Ok r M){j:Nat}{d:av}(hd:M[j]?=some d):∃q,tC r.g M d.up q/\r.g::d.hs=q++[d.h r.g]/\-1<=d.up/\d.up<(j:Int):=by
 by_cases h0:0<j;obtain⟨i,d',h,now,h1,h2,rfl,_⟩:=hM.up j d h0 hd;exact⟨r.g::d'.hs,.inr ⟨i,d',rfl,h2,rfl⟩,by rw[Ar.lY];simp,by show -1<=((i:Nat):Int);omega,by show((i:Nat):Int)<(j:Int);omega⟩
 ·obtain rfl:j=0:=by omega
  rw[hM.zero]at hd;cases hd;exact⟨[],.inl ⟨rfl,rfl⟩,rfl,by simp[aN],by simp[aN]⟩
theorem Lv(p:NN.Pr)(hp:p.ok)(vH vI vA vW:Value)(room b:Nat)(r:Ru)(M:List av)(hM:Ok r M)(hok:∀x∈M.map (av.h r.g),x.ok)(hl:M.length<=900)(i:Nat)(e:av)(he:M[i]?=some e)(n:Nat)(hn:n=M.length)(w:World)(hA:Has w b (lU p vH vI vA vW room) 72)(hH:w.ownsRow 0 30 68 vH (M.map (av.h r.g)).length ((M.map (av.h r.g)).flatMap cP))(hI:w.ownsRow 0 3 1 vA n ((M.map av.up).map (Value.int .i64))):aU 79 #[af b,i_ i] w fun r' w'=>∃ad c,r'=.returned (.slice ad (e.hs.length+1) c)/\bo w' ad (r.g::e.hs)/\e.hs.length+1<=c/\Below w.heap.size w w':=by
 obtain⟨g,c,rfl,hr0⟩:=qV hI (k:=i) (x:=e.up) (by rw[eK,he];rfl);obtain⟨gH,cH,rfl,hr1⟩:=wO hH hok (k:=i) (x:=e.h r.g) (by rw[eK,he];rfl);clear hr0 hr1;rw[dS,<-hn]at hA;have c85:=Ah hA hp;have XJ:=ue hA hp;have HI:=h_ fun(w':World)(hb:Below w.heap.size w w')=>aF hI (Kp.of (F:=fun _=>False) hb) fun _ _ hf=>hf
 have HH:=h_ fun(w':World)(hb:Below w.heap.size w w')=>aF hH (Kp.of (F:=fun _=>False) hb) fun _ _ hf=>hf
 have HC:=h_ fun(w':World)(hb:Below w.heap.size w w')=>(iZ (hb.block b (block_lt_of_cell c85))).trans c85
 have HD:=h_ fun(w':World)(hb:Below w.heap.size w w')=>(iZ (hb.block b (block_lt_of_cell XJ))).trans XJ
 have HN:=h_ hn;have HS:Hid (tC r.g M (i:Int) (r.g::e.hs)):=h_ (.inr ⟨i,e,rfl,he,rfl⟩)
 have hi9:(r.g::e.hs).length<=900:=by
  have:=(hM.chain i e he).1;have:=(bk.1 he).1;simp;omega
 have HL:=h_ hi9;rw[show e.hs.length+1=(r.g::e.hs).length by simp];generalize r.g::e.hs=tot at*;clear hn hI hH hA c85 XJ he hi9;go_enter Tryz.func79,Tryz.ntmps79;go_wp2_with fail
 go_loopw [5,6] (fun v i wr=>∃(ad:Option Addr)(m c:Nat)(k:Int)(z q:List Hd),v=.slice ad m c/\i=i_ k/\Hid (tC r.g M k q/\-1<=k/\z.length=m/\q++z=tot/\(ad=none->m=0/\c=0)/\m<=c)/\bo wr ad z/\Below w.heap.size w wr) (fun _ i _=>(intOf i+1).toNat)
 case atStart=>exact⟨none,0,0,(i:Int),[],tot,rfl,rfl,h_ ⟨HS.out,by omega,rfl,by simp,fun _=>⟨rfl,rfl⟩,au _⟩,fun h=>absurd h (by simp),cg⟩
 case round=>
  obtain⟨ad,m,cc,k,z,q,rfl,rfl,HK,hHA,hB⟩:=hrel;rcases HK.out with⟨⟨rfl,rfl⟩|⟨j,d,hk,hd,rfl⟩,hk1,hlm,htot,hnil,hmc⟩
  ·have e1:z=tot:=by simpa using htot
   have e2:m=tot.length:=by rw[<-hlm,e1]
   have HE:=h_ (dQ e1 (dQ e2 hmc));clear hk1 hlm htot hnil e1 e2 hmc;go_wp2_with fail
   go_ret;exact⟨ad,cc,by rw[<-HE.out.2.1];rfl,by rw[<-HE.out.1];exact hHA,by rw[<-HE.out.2.1];exact HE.out.2.2,hB⟩
  ·subst hk;obtain⟨q2,l1,l2,l3,l4⟩:=PE hM hd;have hjn:j<n:=by rw[HN.out];exact(bk.1 hd).1
   have hk0:(0:Int)<=(j:Int):=by omega
   have hdj:(M.map (av.h r.g))[j]?=some (d.h r.g):=by rw[eK,hd];rfl
   have hyo:(d.h r.g).ok:=hok _ (ee hdj);have V6:Hid (tC r.g M d.up q2/\-1<=d.up/\(d.h r.g::z).length=m+1/\q2++(d.h r.g::z)=tot):=h_ ⟨l1,l3,by simp[hlm],by rw[<-htot,l2];simp⟩;have HM:Hid ((intOf (i_ d.up)+1).toNat<(intOf (i_ j)+1).toNat):=h_ (by simp[intOf];omega);have HU:Hid ((M.map av.up)[j]?=some d.up):=h_ (by rw[eK,hd];rfl)
   have YE:m<=900:=by
    have h1:=HL.out;rw[<-htot]at h1;simp at h1;omega
   have HM9:=h_ (dQ YE (dQ hlm hnil));have XJ:=HD.out _ hB;obtain⟨g2,c2,e2,rh⟩:=wO (HH.out _ hB) hok hdj;obtain rfl:gH=g2:=by cases e2;rfl
   clear e2 hk1 hlm htot l1 l2 l3 l4 hd YE hdj hnil hmc;generalize d.up=u at*;generalize d.h r.g=y at*;have zh:=gQ hyo;have za:=jI hyo;have hbW:Below wr.heap.size wr (wr.alloc (.cells (aS y) 30)):=cu;have hgW:Has (wr.alloc (.cells (aS y) 30)) wr.heap.size (aS y) 30:=Has.new _ _;have hHW:=hHA.below hbW;have hbg:wr.heap.size<=(wr.alloc (.cells (aS y) 30)).heap.size:=hbW.size
   go_upto_region 4 with(first
    | (with_reducible refine mL rfl _ rfl gH (j*68) rfl y rh zh ?_)
    | (with_reducible refine QD rfl _ rfl (aS y) rfl za ?_)
    | ((with_reducible refine Uk rfl _ _ rfl rfl wr.heap.size wr.heap.size y hyo rfl hgW (au _) hbg ad m cc z rfl HM9.out.2.1 HM9.out.2.2 hHW HM9.out.1 ?_);intro ad' c' w2 hH' hne hg' ae3))
   have hb2:Below wr.heap.size wr w2:=(hbW).grown hg' hbW.size (fun q hq=>by have:wr.heap.size=q:=Option.some.inj hq;omega);have hB2:=ai hB hb2;have c1:=HC.out _ hB2;obtain⟨g3,c3,e3,hr⟩:=qV (HI.out _ hB2) HU.out;obtain rfl:g=g3:=by cases e3;rfl
   clear e3 hbW hgW hHW hbg hg' rh XJ hHA hb2;have V2:=h_ (dQ hne ae3);clear hne ae3;go_wp2_with fail
   go_roundw
   case rel=>exact⟨ad',m+1,c',u,y::z,q2,rfl,rfl,h_ ⟨V6.out.1,V6.out.2.1,V6.out.2.2.1,V6.out.2.2.2,fun e=>absurd e V2.out.1,V2.out.2⟩,hH',hB2⟩
   case measure=>exact HM.out
theorem J1{B:Nat}{F:Nat->Prop}(h:km w B F b r M)(hM:Ok r M)(hl:M.length<=900)(i:Nat)(e:av)(he:M[i]?=some e):aU 79 #[af b,i_ i] w fun r' w'=>∃ad c,r'=.returned (.slice ad (e.hs.length+1) c)/\bo w' ad (r.g::e.hs)/\e.hs.length+1<=c/\Bl w w':=by obtain⟨_,_,_,p,t,vH,vI,vA,vW,ws,h3,_⟩:=h;have hA:=h3.has;have hI:=h3.WT;have hH:=h3.WS;have hp:=h3.VQ;have hg:=h3.du;clear h3;rw[dS]at hI;exact Lv p hp vH vI vA vW r.room b r M hM hg hl i e he M.length rfl w hA hH hI
end An
namespace An
open Go.RowKit Mem Sc NN.VI
theorem Mu(b:Nat)(h:Hd)(ho:h.ok)(now:Int)(w:World)(KG:bG w 73 #[.agg (aS h)] (.bool false)):Calls Tryz.prog 40 #[.pointer (some ⟨b,0,none⟩),.agg (aS h),.int .i64 now] w fun r w'=>r=.returned (.tuple #[.int .i64 (-1),.int .i64 (1),.int .i64 (8)])/\Below w.heap.size w w':=by
 have za:=jI ho;go_enter Tryz.func40,Tryz.ntmps40;go_upto_region 1 with fail
 generalize hw0:World.alloc _ _=v0;have hB:Below w.heap.size w v0:=eT hw0;have hH:aX v0 w.heap.size h:=by rw[<-hw0];exact Has.new _ _
 clear hw0;obtain⟨bH,Vy⟩:∃x,x=w.heap.size:=⟨_,rfl⟩;have Yf:=h_ Vy;rw[<-Vy]at hH|-;clear Vy;go_wp2_with (first|fail|(with_reducible refine dU rfl _ rfl _ rfl hH za ?_))
 refine az (KG.out _ hB) fun v1 hb=>?_;replace hH:=hH.on hb;replace hB:=ai hB hb;clear hb;go_wp2_with fail
 go_ret3
 exact⟨rfl,hB⟩
theorem R'(b:Nat)(h:Hd)(ho:h.ok)(now:Int)(w:World)(KG:bG w 73 #[.agg (aS h)] (.bool true))(id:List UInt8)(KI:bG w 75 #[.agg (aS h)] (.agg (ae id)))(j:Nat)(KF:bG w 77 #[.pointer (some ⟨b,0,none⟩),.agg (ae id)] (.int .i64 (j:Int))):Calls Tryz.prog 40 #[.pointer (some ⟨b,0,none⟩),.agg (aS h),.int .i64 now] w fun r w'=>r=.returned (.tuple #[.int .i64 ((j:Int)),.int .i64 (0),.int .i64 (0)])/\Below w.heap.size w w':=by
 have hj0:(0:Int)<=(j:Int):=by omega
 have za:=jI ho;go_enter Tryz.func40,Tryz.ntmps40;go_upto_region 1 with fail
 generalize hw0:World.alloc _ _=v0;have hB:Below w.heap.size w v0:=eT hw0;have hH:aX v0 w.heap.size h:=by rw[<-hw0];exact Has.new _ _
 clear hw0;obtain⟨bH,Vy⟩:∃x,x=w.heap.size:=⟨_,rfl⟩;have Yf:=h_ Vy;rw[<-Vy]at hH|-;clear Vy;go_wp2_with (first|fail|(with_reducible refine dU rfl _ rfl _ rfl hH za ?_))
 refine az (KG.out _ hB) fun v1 hb=>?_;replace hH:=hH.on hb;replace hB:=ai hB hb;clear hb;go_wp2_with (first|fail|(with_reducible refine dU rfl _ rfl _ rfl hH za ?_))
 refine az (KI.out _ hB) fun v2 hb=>?_;replace hH:=hH.on hb;replace hB:=ai hB hb;clear hb;go_wp2_with (first|fail|(with_reducible refine dU rfl _ rfl _ rfl hH za ?_))
 refine az (KF.out _ hB) fun v3 hb=>?_;replace hH:=hH.on hb;replace hB:=ai hB hb;clear hb;go_wp2_with fail
 go_ret3
 exact⟨rfl,hB⟩
theorem Sa(b:Nat)(h:Hd)(ho:h.ok)(now:Int)(w:World)(KG:bG w 73 #[.agg (aS h)] (.bool true))(id:List UInt8)(KI:bG w 75 #[.agg (aS h)] (.agg (ae id)))(KF:bG w 77 #[.pointer (some ⟨b,0,none⟩),.agg (ae id)] (.int .i64 (-1)))(KP:bG w 77 #[.pointer (some ⟨b,0,none⟩),.agg (ae h.prev)] (.int .i64 (-1))):Calls Tryz.prog 40 #[.pointer (some ⟨b,0,none⟩),.agg (aS h),.int .i64 now] w fun r w'=>r=.returned (.tuple #[.int .i64 (-1),.int .i64 (2),.int .i64 (5)])/\Below w.heap.size w w':=by
 have za:=jI ho;go_enter Tryz.func40,Tryz.ntmps40;go_upto_region 1 with fail
 generalize hw0:World.alloc _ _=v0;have hB:Below w.heap.size w v0:=eT hw0;have hH:aX v0 w.heap.size h:=by rw[<-hw0];exact Has.new _ _
 clear hw0;obtain⟨bH,Vy⟩:∃x,x=w.heap.size:=⟨_,rfl⟩;have Yf:=h_ Vy;rw[<-Vy]at hH|-;clear Vy;go_wp2_with (first|fail|(with_reducible refine dU rfl _ rfl _ rfl hH za ?_))
 refine az (KG.out _ hB) fun v1 hb=>?_;replace hH:=hH.on hb;replace hB:=ai hB hb;clear hb;go_wp2_with (first|fail|(with_reducible refine dU rfl _ rfl _ rfl hH za ?_))
 refine az (KI.out _ hB) fun v2 hb=>?_;replace hH:=hH.on hb;replace hB:=ai hB hb;clear hb;go_wp2_with (first|fail|(with_reducible refine dU rfl _ rfl _ rfl hH za ?_))
 refine az (KF.out _ hB) fun v3 hb=>?_;replace hH:=hH.on hb;replace hB:=ai hB hb;clear hb;have rP:v3.rangeAt bH 1 (Lib.byteCells h.prev):=A4 (aX.range hH);have sP:(Lib.byteCells h.prev).length=32:=by rw[Lib.byteCells_length,ho.1]
 go_wp2_with (first|fail|(with_reducible refine jL rfl _ rfl bH 1 rfl h.prev rP sP ?_))
 refine az (KP.out _ hB) fun v4 hb=>?_;replace hH:=hH.on hb;replace hB:=ai hB hb;clear hb;go_wp2_with fail
 go_ret3
 exact⟨rfl,hB⟩
open Ar (av Ok Ru aN)
section
variable{w:World}{b:Nat}{p:NN.Pr}{vH vI vA vW:Value}{room:Nat}
theorem uX(hp:p.ok)(j:Nat):(lU p vH vI vA vW room)[83+j]?=([vH,vI,vA,vW,i_ room]:List Value)[j]?:=by unfold lU Fy;rw[dg,dE (by rw[nc hp];omega),nc hp,show 83+j-83=j by omega]
theorem Bb(h:Has w b (lU p vH vI vA vW room) 72)(hp:p.ok):w.cell? ⟨b,86,none⟩=some vW:=(Has.cell h 86).trans (uX hp 3)
theorem Ud(h:Has w b (lU p vH vI vA vW room) 72)(hp:p.ok):w.cell? ⟨b,87,none⟩=some (i_ room):=(Has.cell h 87).trans (uX hp 4)
theorem Nf(h:Has w b (lU p vH vI vA vW room) 72):w.rangeAt b 0 (NN.f_ p):=by have:=j4 (A:=[]) (cs:=NN.f_ p) (C:=[vH,vI,vA,vW,i_ room]) (o:=0) (w:=w) (b:=b) (t:=72) h rfl;exact this
theorem qu(h:Has w b (lU p vH vI vA vW room) 72)(hp:p.ok)(v':Value)(k:Nat){cs:List Value}(hk:([vH,vI,vA,vW,i_ room]:List Value).set k v'=cs):Has (w.setCell ⟨b,83+k,none⟩ v') b (NN.f_ p++cs).toArray 72:=by
 have:=Has.set (i:=83+k) h v'
 have e:(lU p vH vI vA vW room).setIfInBounds (83+k) v'=(NN.f_ p++cs).toArray:=by
  unfold lU Fy;rw[da,jM _ _ (by rw[nc hp];omega),nc hp,show 83+k-83=k by omega,hk]
 rwa[e]at this
theorem yM(w:World)(g:Nat):(Instr.fieldAt 72 (af g) 0).run Tryz.prog w=.ok (af g) w:=by kernel_rfl
theorem tH(w:World)(g:Nat):(Instr.fieldAt 72 (af g) 1).run Tryz.prog w=.ok (.pointer (some ⟨g,83,none⟩)) w:=by kernel_rfl
theorem tJ(w:World)(g:Nat):(Instr.fieldAt 72 (af g) 2).run Tryz.prog w=.ok (.pointer (some ⟨g,84,none⟩)) w:=by kernel_rfl
theorem ql(w:World)(g:Nat):(Instr.fieldAt 72 (af g) 4).run Tryz.prog w=.ok (.pointer (some ⟨g,86,none⟩)) w:=by kernel_rfl
theorem T9(w:World)(g j n c:Nat)(hj:j<n):(Instr.indexAt 70 (.slice (bs g) n c) (i_ j)).run Tryz.prog w=.ok (.pointer (some ⟨g,j*4,none⟩)) w:=by go_simp
end
section
variable{ρ:Operand->Value}{o:Oper}{w w':World}
variable{T:TypeId}{x:Operand}{p:Addr}{u:Value}
theorem dy(ho:o.op=.load T x)(hx:ρ x=.pointer (some p))(hl:(loadVar T p).run Tryz.prog w=.ok u w):(execOp ρ o).run Tryz.prog w=.ok (.value u) w:=by unfold execOp;simp only[ho,hx,Instr.loadAt,Instr.sureAddr,aB,cr,aM,hl]
theorem nu{y:Operand}(ho:o.op=.store T x y)(hx:ρ x=.pointer (some p))(hy:ρ y=u)(hl:(storeVar T p u).run Tryz.prog w=.ok () w'):(execOp ρ o).run Tryz.prog w=.ok .skip w':=by unfold execOp;simp only[ho,hx,hy,Instr.storeAt,Instr.sureAddr,aB,cr,aM,hl]
variable{a:Option Addr}{n c:Nat}
theorem Ec(h:w.cell? p=some (.slice a n c)):(loadVar 68 p).run Tryz.prog w=.ok (.slice a n c) w:=by go_simp
theorem GJ(h:w.cell? p=some (.slice a n c)):(loadVar 69 p).run Tryz.prog w=.ok (.slice a n c) w:=by go_simp
theorem CR(h:w.cell? p=some (.slice a n c)):(loadVar 70 p).run Tryz.prog w=.ok (.slice a n c) w:=by go_simp
theorem D4(hf:w.frozen? p=false)(hc:w.cell? p=some u):(storeVar 68 p (.slice a n c)).run Tryz.prog w=.ok () (w.setCell p (.slice a n c)):=by go_simp
theorem Dt(hf:w.frozen? p=false)(hc:w.cell? p=some u):(storeVar 69 p (.slice a n c)).run Tryz.prog w=.ok () (w.setCell p (.slice a n c)):=by go_simp
theorem AZ(hf:w.frozen? p=false)(hc:w.cell? p=some u):(storeVar 70 p (.slice a n c)).run Tryz.prog w=.ok () (w.setCell p (.slice a n c)):=by go_simp
theorem yp{Ts:TypeId}{size bytes:Nat}(hu:Tryz.prog.underlying Ts=some (.slice T))(aj6:∃i z,Tryz.prog.info? T=some i/\i.zero=some z/\i.size=size/\i.bytes=bytes/\z.cells.size=size)(h4:1001*bytes<=140737488355328)(h5:0<size){x y:Operand}{v:Value}{n g:Nat}{xs:List Value}{cs:Array Value}(hcs:cs.size=size)(hone:∀u∈cs.toList,u.oneCell'=true)(hx:ρ x=v)(hown:w.ownsRow 0 T size v n xs)(hy:ρ y=.slice (bs g) 1 1)(hg:Has w g cs T)(hn:n<=1000):∃v' w',(∀o:Oper,o.op=.call { callee:=.builtin .append,args:=#[x,y],argTypes:=#[Ts,Ts] }->o.type=Ts->(execOp ρ o).run Tryz.prog w=.ok (.value v') w')/\w'.ownsRow 0 T size v' (n+1) (xs++cs.toList)/\w.grownBy w' v.ownBlock/\(v'.ownBlock=v.ownBlock\/v'.ownBlock=some w.heap.size):=by
 obtain⟨i,z,hi,hz,h1,h2,h3⟩:=aj6
 obtain⟨v',w',hr,g1,g2,_,g4⟩:=run_append_own_at (P:=Tryz.prog) w 0 Ts Ts T i z size bytes hu hi hz h1 h2 h3 h5 v n xs hown ⟨g,0,none⟩ 1 1 cs.toList (by simp[hcs]) (fun j u hj=>by
  rw[jK,cy,hg.cell j,<-Array.getElem?_toList];exact hj) hone (by unfold maxLen;omega) (ax (jN _ (by omega)) h4) (bB _)
 refine⟨v',w',fun o ho hty=>?_,g1,g2,g4⟩;unfold execOp;simp only[ho,hty,resolve,invoke,builtin,aB,cr,aM,im,bZ,cx,hx,hy,hr]
end
theorem lV{w:World}{base:Nat}{T:TypeId}{size:Nat}{v:Value}{n:Nat}{xs:List Value}(h:w.ownsRow base T size v n xs)(hn:0<n):∃g c,v=.slice (bs g) n c:=by
 rcases h.2 with⟨_,h0⟩|⟨g,c,cur,rfl,_⟩
 omega;exact⟨g,c,rfl⟩
structure mc (kb ka ks sb sa B:Nat) (T TA:TypeId) (size:Nat) (E:Array Value->Prop) (v:Value) (n:Nat) (xs:List Value) (b:Nat) (A:Value->Array Value) (l:Array Bool) (a:Act) (w:World):Prop where
 bu:l.getD kb false=true->l.getD ka false=false->∃g cs,E cs/\a.eval (.tmp sb)=.slice (bs g) 1 1/\Has w g cs T
 ro:l.getD ka false=false->w.ownsRow 0 T size v n xs
 ap:l.getD ka false=true->l.getD ks false=false->∃v' cs,E cs/\a.eval (.tmp sa)=v'/\w.ownsRow 0 T size v' (n+1) (xs++cs.toList)/\(v'.ownBlock=v.ownBlock\/∃g,v'.ownBlock=some g/\B<=g)
 ha:l.getD ks false=false->Has w b (A v) TA
 st:l.getD ks false=true->∃v' cs,E cs/\Has w b (A v') TA/\w.ownsRow 0 T size v' (n+1) (xs++cs.toList)/\(v'.ownBlock=v.ownBlock\/∃g,v'.ownBlock=some g/\B<=g)
section
variable{kb ka ks sb sa B:Nat}{T TA:TypeId}{size:Nat}{E:Array Value->Prop}{v:Value}{n:Nat}{xs:List Value}{b:Nat}{A:Value->Array Value}{l:Array Bool}{a:Act}{w w':World}
theorem mc.zero(hl:∀i,l.getD i false=false)(hr:w.ownsRow 0 T size v n xs)(hA:Has w b (A v) TA):mc kb ka ks sb sa B T TA size E v n xs b A l a w:=⟨fun h=>(by rw[hl]at h;cases h),fun _=>hr,fun h=>(by rw[hl]at h;cases h),fun _=>hA,fun h=>(by rw[hl]at h;cases h)⟩
theorem mc.keep(h:mc kb ka ks sb sa B T TA size E v n xs b A l a w){i:Nat}(hi:i<l.size)(h1:i≠kb:=by decide)(h2:i≠ka:=by decide)(h3:i≠ks:=by decide){d:Option Tmp}{u:Value}(hd:d≠some sb:=by decide)(hd2:d≠some sa:=by decide):mc kb ka ks sb sa B T TA size E v n xs b A (l.setIfInBounds i true) (a.put d u) w:=by obtain⟨p1,p2,p3,p4,p5⟩:=h;constructor<;>simp only[kk l i kb hi h1,kk l i ka hi h2,kk l i ks hi h3,fV (a:=a) (v:=u) (fun d' hdd e=>hd (by rw[hdd];cases e;rfl):∀d',d=some d'->(Operand.tmp sb)=.tmp d'->False),fV (a:=a) (v:=u) (fun d' hdd e=>hd2 (by rw[hdd];cases e;rfl):∀d',d=some d'->(Operand.tmp sa)=.tmp d'->False)]<;>assumption
theorem mc.on(h:mc kb ka ks sb sa B T TA size E v n xs b A l a w)(hb:Bl w w'):mc kb ka ks sb sa B T TA size E v n xs b A l a w':=by have k:=Kp.of (F:=fun _=>False) hb;refine⟨fun h1 h2=>?_,fun h1=>aF (h.ro h1) k (fun _ _ h=>h),fun h1 h2=>?_,fun h1=>k.has (h.ha h1) (fun h=>h),fun h1=>?_⟩;obtain⟨g,cs,e1,e2,e3⟩:=h.bu h1 h2;exact⟨g,cs,e1,e2,k.has e3 (fun h=>h)⟩;obtain⟨v',cs,e1,e2,e3,e4⟩:=h.ap h1 h2;exact⟨v',cs,e1,e2,aF e3 k (fun _ _ h=>h),e4⟩;obtain⟨v',cs,e1,e2,e3,e4⟩:=h.st h1;exact⟨v',cs,e1,k.has e2 (fun h=>h),aF e3 k (fun _ _ h=>h),e4⟩
theorem mc.built(h:mc kb ka ks sb sa B T TA size E v n xs b A l a w)(hi:kb<l.size)(ka0:(l.setIfInBounds kb true).getD ka false=false)(ZC:(l.setIfInBounds kb true).getD ks false=false)(h1:kb≠ka)(h2:kb≠ks)(hs:sb<a.tmps.size){cs:Array Value}(hE:E cs):mc kb ka ks sb sa B T TA size E v n xs b A (l.setIfInBounds kb true) (a.put (some sb) (.slice (some ⟨w.heap.size,0,none⟩) 1 1)) (w.alloc (.cells cs T)):=by have hb:Bl w (w.alloc (.cells cs T)):=cu;have k:=Kp.of (F:=fun _=>False) hb;exact⟨fun _ _=>⟨_,cs,hE,oq a sb _ hs,Has.new _ _⟩,fun _=>aF (h.ro (by rw[<-kk l kb ka hi h1];exact ka0)) k (fun _ _ h=>h),fun h=>(by rw[ka0]at h;cases h),fun _=>k.has (h.ha (by rw[<-kk l kb ks hi h2];exact ZC)) (fun h=>h),fun h=>(by rw[ZC]at h;cases h)⟩
theorem mc.appended(h:mc kb ka ks sb sa B T TA size E v n xs b A l a w)(hi:ka<l.size)(ZC:(l.setIfInBounds ka true).getD ks false=false)(h2:ka≠ks)(hs:sa<a.tmps.size){cs:Array Value}(hE:E cs){v':Value}(g1:w'.ownsRow 0 T size v' (n+1) (xs++cs.toList))(g2:w.grownBy w' v.ownBlock)(g3:v'.ownBlock=v.ownBlock\/v'.ownBlock=some w.heap.size)(hB:B<=w.heap.size)(hb:v.ownBlock≠some b):mc kb ka ks sb sa B T TA size E v n xs b A (l.setIfInBounds ka true) (a.put (some sa) v') w':=by
 have ea:(l.setIfInBounds ka true).getD ka false=true:=by rw[ko _ _ _ hi,aj rfl]
 have hA:=h.ha (by rw[<-kk l ka ks hi h2];exact ZC);exact⟨fun _ h=>(by rw[ea]at h;cases h),fun h=>(by rw[ea]at h;cases h),fun _ _=>⟨v',cs,hE,oq a sa _ hs,g1,g3.elim .inl (fun g=>.inr ⟨_,g,hB⟩)⟩,fun _=>(g2.block b (Has.lt hA) (fun e=>hb e.symm)).trans hA,fun h=>(by rw[ZC]at h;cases h)⟩
theorem mc.stored(hi:ks<l.size)(h2:ks≠ka)(hka:l.getD ka false=true){cs:Array Value}(hE:E cs){v':Value}(hA:Has w' b (A v') TA)(g1:w'.ownsRow 0 T size v' (n+1) (xs++cs.toList))(g3:v'.ownBlock=v.ownBlock\/∃g,v'.ownBlock=some g/\B<=g):mc kb ka ks sb sa B T TA size E v n xs b A (l.setIfInBounds ks true) (a.put none undef) w':=by
 have ea:(l.setIfInBounds ks true).getD ka false=true:=by rw[kk l ks ka hi h2];exact hka
 have es:(l.setIfInBounds ks true).getD ks false=true:=by rw[ko _ _ _ hi,aj rfl]
 exact⟨fun _ h=>(by rw[ea]at h;cases h),fun h=>(by rw[ea]at h;cases h),fun _ h=>(by rw[es]at h;cases h),fun h=>(by rw[es]at h;cases h),fun _=>⟨v',cs,hE,hA,g1,g3⟩⟩
end
def QY(b j:Nat)(p:NN.Pr)(h:Hd)(now y:Int)(m:Nat)(ch:List Hd):Nat->Value->World->Prop
 | 0,u,_=>u=af b
 | 1,u,_=>u=af b
 | 2,u,_=>u=af b
 | 3,u,_=>u=.agg (NN.aV p)
 | 4,u,_=>u=af b
 | 5,u,_=>u=i_ j
 | 6,u,w=>∃ad c,u=.slice ad m c/\bo w ad ch
 | 7,u,_=>u=.agg (aS h)
 | 8,u,_=>u=i_ now
 | 9,u,_=>u=i_ y
 | 10,u,_=>u=i_ y
 | _,_,_=>b=b
theorem MD{b j:Nat}{p:NN.Pr}{h:Hd}{now y:Int}{m:Nat}{ch:List Hd}:∀(i:Nat)(u:Value)(w w':World),Bl w w'->QY b j p h now y m ch i u w->QY b j p h now y m ch i u w'
 | 0,_,_,_,_,h|1,_,_,_,_,h|2,_,_,_,_,h|3,_,_,_,_,h|4,_,_,_,_,h|5,_,_,_,_,h|7,_,_,_,_,h|8,_,_,_,_,h|9,_,_,_,_,h|10,_,_,_,_,h=>h
 | 6,_,_,_,hb,⟨ad,c,h1,h2⟩=>⟨ad,c,h1,h2.below hb⟩
 | _+11,_,_,_,_,_=>rfl
structure Vc (b gH gI gA gW bH:Nat):Prop where
 nH:b≠gH
 nI:b≠gI
 nA:b≠gA
 nW:b≠gW
 HI:gH≠gI
 HA:gH≠gA
 HW:gH≠gW
 IA:gI≠gA
 IW:gI≠gW
 AW:gA≠gW
 bb:bH≠b
 bh:bH≠gH
 bi:bH≠gI
 ba:bH≠gA
 bw:bH≠gW
def Vd(b:Nat)(v:Value)(h:Hd):Nat->Value->Prop
 | 0,u|1,u|2,u|8,u=>u=af b
 | 3,u|9,u=>u=.pointer (some ⟨b,83,none⟩)
 | 4,u=>u=v
 | 5,u=>u=.agg (aS h)
 | _,_=>b=b
def U'(b:Nat)(v:Value)(h:Hd)(id:List UInt8):Nat->Value->Prop
 | 0,u|1,u|2,u|9,u=>u=af b
 | 3,u|10,u=>u=.pointer (some ⟨b,84,none⟩)
 | 4,u=>u=v
 | 5,u=>u=.agg (aS h)
 | 6,u=>u=.agg (ae id)
 | _,_=>b=b
def Vf(b bH gW j z xo xs:Nat)(v:Value)(bits:Int):Nat->Value->Prop
 | 0,u|1,u|2,u|5,u|6,u|18,u=>u=af b
 | 3,u|7,u|19,u=>u=.pointer (some ⟨b,86,none⟩)
 | 4,u|8,u=>u=v
 | 9,u=>u=i_ j
 | 10,u=>u=.pointer (some ⟨gW,j*4,none⟩)
 | 11,u=>u=.agg (NN.aa z)
 | 12,u=>u=.pointer (some ⟨bH,66,none⟩)
 | 13,u=>u=i_ bits
 | 14,u=>wu xo u
 | 15,u=>wu xs u
 | _,_=>b=b
theorem QX{w:World}{ops:Array Oper}{rest:List Oper}{o:Oper}{a:Act}{Q:Exit->Act->World->Prop}(hgd:o.guard=none)(x y:Operand)(ho:o.op=.store 49 x y)(q:Addr)(ad:Option Addr)(n c:Nat)(u:Value)(hx:a.eval x=.pointer (some q))(hy:a.eval y=.slice ad n c)(hf:w.frozen? q=false)(hc:w.cell? q=some u)(hk:wpList Tryz.prog ops Q rest (a.put o.dst undef) (w.setCell q (.slice ad n c))):wpList Tryz.prog ops Q (o::rest) a w:=
 gk hgd fun _ hK=>by
  unfold Oper.wp;rw[nu ho hx hy (D0 hf hc)];exact hK _ _ hk
theorem SQ(b:Nat)(p:NN.Pr)(hp:p.ok)(room n gH cH gI cI gA cA gW cW:Nat)(xH xI xW:List Value)(lA:List Int)(h:Hd)(ho:h.ok)(now:Int)(w:World)(hA:Has w b (lU p (.slice (some ⟨gH,0,none⟩) n cH) (.slice (some ⟨gI,0,none⟩) n cI) (.slice (some ⟨gA,0,none⟩) n cA) (.slice (some ⟨gW,0,none⟩) n cW) room) 72)(rH:w.ownsRow 0 30 68 (.slice (some ⟨gH,0,none⟩) n cH) n xH)(rI:w.ownsRow 0 28 32 (.slice (some ⟨gI,0,none⟩) n cI) n xI)(rA:w.ownsRow 0 3 1 (.slice (some ⟨gA,0,none⟩) n cA) n (lA.map (Value.int .i64)))(rW:w.ownsRow 0 26 4 (.slice (some ⟨gW,0,none⟩) n cW) n xW)(Xc:n<=900)(j:Nat)(hj:j<n)(z:Nat)(hz:z<NN.Nm.ak)(HWj:Hid (∀w':World,w'.ownsRow 0 26 4 (.slice (some ⟨gW,0,none⟩) n cW) n xW->w'.rangeAt gW (j*4) (NN.aa z).toList))(KG:bG w 73 #[.agg (aS h)] (.bool true))(id:List UInt8)(i32:id.length=32)(KI:CN 75 #[.agg (aS h)] (.agg (ae id)))(KF:bG w 77 #[.pointer (some ⟨b,0,none⟩),.agg (ae id)] (.int .i64 (-1)))(KP:bG w 77 #[.pointer (some ⟨b,0,none⟩),.agg (ae h.prev)] (.int .i64 (j:Int)))(m:Nat)(ch:List Hd)(KC:Hid (∀w',Below w.heap.size w w'->Calls Tryz.prog 79 #[.pointer (some ⟨b,0,none⟩),.int .i64 (j:Int)] w' fun e w''=>∃v,e=.returned v/\(∃ad c,v=.slice ad m c/\bo w'' ad ch)/\Below w'.heap.size w' w''))(y:Int)(KK:Hid (∀w' ad c,Below w.heap.size w w'->bo w' ad ch->Calls Tryz.prog 78 #[.agg (NN.aV p),.slice ad m c,.agg (aS h),.int .i64 now] w' fun e w''=>e=.returned (.int .i64 y)/\Below w'.heap.size w' w''))(xo xs:Nat)(KO:Hid (NN.Bn 76 #[.int .i64 h.bits] xo))(KS:Hid (∀x,x<NN.Nm.ak/\x=xo->NN.Bn 80 #[.agg (NN.aa z),.agg (NN.aa x)] xs))(gy gf:Bool)(t9:decide ((0:Int)<y)=gy)(tf:decide (room<=n)=gf)(Q:Ending->World->Prop)(ZO:Hid (gy=true->∀w',Below w.heap.size w w'->Q (.returned (.tuple #[.int .i64 (-1),.int .i64 y,.int .i64 8])) w'))(HQ2:Hid (gy=false->gf=true->∀w',Below w.heap.size w w'->Q (.returned (.tuple #[.int .i64 (-1),.int .i64 0,.int .i64 6])) w'))(HQ3:Hid (gy=false->gf=false->∀w' vH vI vA vW z',z'<NN.Nm.ak/\z'=xs->Has w' b (lU p vH vI vA vW room) 72->w'.ownsRow 0 30 68 vH (n+1) (xH++cP h)->w'.ownsRow 0 28 32 vI (n+1) (xI++Lib.byteCells id)->w'.ownsRow 0 3 1 vA (n+1) ((lA++[(j:Int)]).map (Value.int .i64))->w'.ownsRow 0 26 4 vW (n+1) (xW++(NN.aa z').toList)->(∀k,vH.ownBlock=some k->k=gH\/w.heap.size<=k)->(∀k,vI.ownBlock=some k->k=gI\/w.heap.size<=k)->(∀k,vA.ownBlock=some k->k=gA\/w.heap.size<=k)->(∀k,vW.ownBlock=some k->k=gW\/w.heap.size<=k)->Kp (fun i=>i=b\/i=gH\/i=gI\/i=gA\/i=gW) w w'->Q (.returned (.tuple #[.int .i64 (n:Int),.int .i64 0,.int .i64 0])) w')):Calls Tryz.prog 40 #[.pointer (some ⟨b,0,none⟩),.agg (aS h),.int .i64 now] w Q:=by
 have hj0:¬(j:Int)<0:=by omega
 have hj1:j<n:=hj;have HJ:=h_ hj;have HZ:=h_ hz;have HR:=h_ (dQ hA (dQ rH (dQ rI (dQ rA rW))));have HTF:=h_ tf;have zI:(ae id).size=32:=by rw[nF];exact i32
 clear hj hz hA rH rI rA rW tf;have za:=jI ho;go_enter Tryz.func40,Tryz.ntmps40;go_upto_region 1 with fail
 generalize hw0:World.alloc _ _=v0;have hB:Below w.heap.size w v0:=eT hw0;have hH:aX v0 w.heap.size h:=by rw[<-hw0];exact Has.new _ _
 clear hw0;obtain⟨bH,Vy⟩:∃x,x=w.heap.size:=⟨_,rfl⟩;have Yf:=h_ Vy;rw[<-Vy]at hH|-;clear Vy;go_wp2_with (first|fail|(with_reducible refine dU rfl _ rfl _ rfl hH za ?_))
 refine az (KG.out _ hB) fun v1 hb=>?_;replace hH:=hH.on hb;replace hB:=ai hB hb;clear hb;go_wp2_with (first|fail|(with_reducible refine dU rfl _ rfl _ rfl hH za ?_))
 refine az (KI.out _) fun v2 hb=>?_;replace hH:=hH.on hb;replace hB:=ai hB hb;clear hb;go_wp2_with (first|fail|(with_reducible refine dU rfl _ rfl _ rfl hH za ?_))
 refine az (KF.out _ hB) fun v3 hb=>?_;replace hH:=hH.on hb;replace hB:=ai hB hb;clear hb;have rP:v3.rangeAt bH 1 (Lib.byteCells h.prev):=A4 (aX.range hH);have sP:(Lib.byteCells h.prev).length=32:=by rw[Lib.byteCells_length,ho.1]
 go_wp2_with (first|fail|(with_reducible refine jL rfl _ rfl bH 1 rfl h.prev rP sP ?_))
 refine az (KP.out _ hB) fun v4 hb=>?_;replace hH:=hH.on hb;replace hB:=ai hB hb;clear hb;clear rP sP KG KF KP;go_upto_region 9 with fail
 have HB4:=h_ hB;refine lG (by kernel_rfl) (fun w'=>Below v4.heap.size v4 w') (fun i v' w'=>QY b j p h now y m ch i v' w') (fun _ _ _=>True) (fun w1 w2=>Below w1.heap.size w1 w2) (fun _ _=>aA _ _) (fun i v w w' _ hs h=>MD i v w w' hs h) (by kernel_rfl) cg.drew (fun _ _=>trivial) ?_ ?_
 ·intro i o lz a wx ho' hnl dq Z;have hC:=Z.c;have hi:i<11:=(dA.1 ho').1;have Xt:aX wx bH h:=hH.on hC;have hBx:=ai HB4.out hC;have rp:wx.rangeAt b 0 (NN.f_ p):=lL (Nf HR.out.1) hBx (by rw[nc hp];decide);obtain rfl|rfl|rfl|rfl|rfl|rfl|rfl|rfl|rfl|rfl|rfl:i=0\/i=1\/i=2\/i=3\/i=4\/i=5\/i=6\/i=7\/i=8\/i=9\/i=10:=by omega
  all_goals obtain rfl:=Option.some.inj ho'
  exact fw (S:=fun w1 w2=>Below w1.heap.size w1 w2) (fun _ _=>aA _ _) 0 Z (aq rfl) (NN.fs rfl) (Z.old' 0) trivial;exact fw (S:=fun w1 w2=>Below w1.heap.size w1 w2) (fun _ _=>aA _ _) 1 Z (aq rfl) (dR rfl (aw Z dq 0 28)) rfl trivial;exact fw (S:=fun w1 w2=>Below w1.heap.size w1 w2) (fun _ _=>aA _ _) 2 Z (aq rfl) (fg rfl (aw Z dq 1 29) (yM wx b)) rfl trivial;exact fw (S:=fun w1 w2=>Below w1.heap.size w1 w2) (fun _ _=>aA _ _) 3 Z (aq rfl) (Fv rfl (aw Z dq 2 30) rp (nc hp)) rfl trivial;exact fw (S:=fun w1 w2=>Below w1.heap.size w1 w2) (fun _ _=>aA _ _) 4 Z (aq rfl) (NN.fs rfl) (Z.old' 0) trivial;exact fw (S:=fun w1 w2=>Below w1.heap.size w1 w2) (fun _ _=>aA _ _) 5 Z (aq rfl) (NN.fs rfl) (Z.old' 10) trivial
  ·have e32:a.eval (.tmp 32)=.pointer (some ⟨b,0,none⟩):=(aw Z dq 4 32);have e33:a.eval (.tmp 33)=.int .i64 (j:Int):=(aw Z dq 5 33);exact U0 (S:=fun w1 w2=>Below w1.heap.size w1 w2) 6 Z (W:=fun v w'=>∃ad c,v=.slice ad m c/\bo w' ad ch) (aq rfl) (f:=79) (args:=#[a.eval (.tmp 32),a.eval (.tmp 33)]) (by kernel_rfl) (by rw[e32,e33];exact KC.out wx hBx) (fun v w' hv hb=>⟨ai hC hb,hb,hv,trivial⟩)
  exact fw (S:=fun w1 w2=>Below w1.heap.size w1 w2) (fun _ _=>aA _ _) 7 Z (aq rfl) (sC rfl (Z.old' 4) Xt za) rfl trivial;exact fw (S:=fun w1 w2=>Below w1.heap.size w1 w2) (fun _ _=>aA _ _) 8 Z (aq rfl) (NN.fs rfl) (Z.old' 2) trivial
  ·have e31:a.eval (.tmp 31)=.agg (NN.aV p):=(aw Z dq 3 31);obtain⟨ad,c,e34,hch⟩:∃ad c,a.eval (.tmp 34)=.slice ad m c/\bo wx ad ch:=(aw Z dq 6 34);have e35:a.eval (.tmp 35)=.agg (aS h):=(aw Z dq 7 35);have e36:a.eval (.tmp 36)=.int .i64 now:=(aw Z dq 8 36);exact qF (S:=fun w1 w2=>Below w1.heap.size w1 w2) 9 Z (aq rfl) (f:=78) (args:=#[a.eval (.tmp 31),a.eval (.tmp 34),a.eval (.tmp 35),a.eval (.tmp 36)]) (by kernel_rfl) (by rw[e31,e34,e35,e36];exact KK.out wx ad c hBx hch) (fun w' hb=>⟨ai hC hb,hb,rfl,trivial⟩)
  exact fw (S:=fun w1 w2=>Below w1.heap.size w1 w2) (fun _ _=>aA _ _) 10 Z (aq rfl) (NN.iX rfl) (aw Z dq 9 37) trivial
 intro lz a' v5 hall Z;have hC:=Z.c;have e11:a'.eval (.tmp 11)=.int .i64 y:=Z.got 10 _ 11 rfl (hall 10 (by decide)) rfl;have e0:a'.eval (.tmp 0)=.pointer (some ⟨b,0,none⟩):=Z.old' 0;have e4:a'.eval (.tmp 4)=.pointer (some ⟨bH,0,none⟩):=Z.old' 4;have e10:a'.eval (.tmp 10)=.int .i64 (j:Int):=Z.old' 10;obtain⟨u,hu⟩:∃u:Nat->Value,∀t,u t=a'.eval (.tmp t):=⟨_,fun _=>rfl⟩;rw[iz a' 108 u Z.Vr Z.defers hu];rw[<-hu]at e0 e4 e10 e11;clear hu Z hall;simp only[List.range,List.range.loop,bZ,cx];rw[e0,e4,e10,e11];clear e0 e4 e10 e11;replace hH:=hH.on hC;replace hB:=ai hB hC;clear hC HB4 KC KK;cases gy
 case true=>
  go_wp2_with fail
  go_ret3
  exact ZO.out (by simp) _ hB
 go_upto_region 12 with fail
 have WJ:=dz hB HR.out.1 HR.out.1.lt;have q83:∀d os,(Sort.grow (redrawn v5 d) os).cell? ⟨b,83,none⟩=some (.slice (some ⟨gH,0,none⟩) n cH):=cell_regrown (ue WJ hp);have q87:∀d os,(Sort.grow (redrawn v5 d) os).cell? ⟨b,87,none⟩=some (.int .i64 (room:Int)):=cell_regrown (Ud WJ hp);clear WJ;refine wp_region_quiet_below (by kernel_rfl) (by kernel_rfl) ?_
 repeat(first
  | go_big_quiet_step (fail))
 refine wpQuiet_nil ?_;intro v6 hw';have hb:=rO v6 hw';replace hH:=hH.on hb;replace hB:=ai hB hb;clear hw' hb q83 q87;cases gf
 case true=>
  have hroom:room<=n:=dX HTF.out;go_wp2_with fail
  go_ret3
  exact HQ2.out (by simp) (by simp) _ hB
 have hroom:¬room<=n:=fc HTF.out
 have V2:Hid (Vc b gH gI gA gW bH):=by
  obtain⟨_,kH⟩:=iD HR.out.2.1 rfl;obtain⟨_,kI⟩:=iD HR.out.2.2.1 rfl;obtain⟨_,kA⟩:=iD HR.out.2.2.2.1 rfl;obtain⟨_,kW⟩:=iD HR.out.2.2.2.2 rfl;have kb:=HR.out.1.out;have lb:=HR.out.1.lt;have lH:=(dM HR.out.2.1 (i:=gH) rfl).1;have lI:=(dM HR.out.2.2.1 (i:=gI) rfl).1;have lA:=(dM HR.out.2.2.2.1 (i:=gA) rfl).1;have lW:=(dM HR.out.2.2.2.2 (i:=gW) rfl).1;have lh:=Yf.out;exact h_ ⟨dK kb kH (by decide),dK kb kI (by decide),dK kb kA (by decide),dK kb kW (by decide),dK kH kI (by decide),dK kH kA (by decide),dK kH kW (by decide),dK kI kA (by decide),dK kI kW (by decide),dK kA kW (by decide),by omega,by omega,by omega,by omega,by omega⟩
 have fH:¬(bH=b\/bH=gH):=fun h=>h.elim V2.out.bb V2.out.bh
 have fI:¬(bH=b\/bH=gI):=fun h=>h.elim V2.out.bb V2.out.bi
 have fW:¬(bH=b\/bH=gW):=fun h=>h.elim V2.out.bb V2.out.bw
 have k0:=Kp.of (F:=fun _=>False) hB;have hA:=k0.has HR.out.1 (fun h=>h);have rH:=aF HR.out.2.1 k0 (fun _ _ h=>h);have rI:=aF HR.out.2.2.1 k0 (fun _ _ h=>h);have rA:=aF HR.out.2.2.2.1 k0 (fun _ _ h=>h);have rW:=aF HR.out.2.2.2.2 k0 (fun _ _ h=>h);have HK:=h_ (Kp.of (F:=fun i=>i=b\/i=gH\/i=gI\/i=gA\/i=gW) hB);have Yp:Hid (w.heap.size<=v6.heap.size):=h_ hB.size;clear k0 hB HR;go_upto_region 14 with fail
 refine lG (by kernel_rfl) (fun w'=>Kp (fun i=>i=b\/i=gH) v6 w') (fun i v' _=>Vd b (.slice (some ⟨gH,0,none⟩) n cH) h i v') (fun l a w'=>mc 6 7 10 57 58 v6.heap.size 30 72 68 (fun cs=>cs=aS h) (.slice (some ⟨gH,0,none⟩) n cH) n xH b (fun u=>lU p u (.slice (some ⟨gI,0,none⟩) n cI) (.slice (some ⟨gA,0,none⟩) n cA) (.slice (some ⟨gW,0,none⟩) n cW) room) l a w') (fun _ _=>True) (fun _ _=>trivial) (fun _ _ _ _ _ _ h=>h) (by kernel_rfl) (Kp.of cg.drew) ?_ ?_ ?_;exact fun l hl=>mc.zero hl (aF rH (Kp.of (F:=fun _=>False) cg.drew) (fun _ _ h=>h)) (Has.drew hA)
 ·intro i o lz a wx ho' hnl dq Z;have hC:=Z.c;have hI:=Z.i;have hi:i<11:=(dA.1 ho').1;have Xt:aX wx bH h:=hC.has hH fH;have hlx:v6.heap.size<=wx.heap.size:=hC.size;obtain rfl|rfl|rfl|rfl|rfl|rfl|rfl|rfl|rfl|rfl|rfl:i=0\/i=1\/i=2\/i=3\/i=4\/i=5\/i=6\/i=7\/i=8\/i=9\/i=10:=by omega
  all_goals obtain rfl:=Option.some.inj ho'
  exact br 0 Z (aq rfl) (NN.fs rfl) (Z.old' 0) (hI.keep (aC Z 0));exact br 1 Z (aq rfl) (NN.fs rfl) (Z.old' 0) (hI.keep (aC Z 1));exact br 2 Z (aq rfl) (dR rfl (aw Z dq 1 52)) rfl (hI.keep (aC Z 2));exact br 3 Z (aq rfl) (fg rfl (aw Z dq 2 53) (tH wx b)) rfl (hI.keep (aC Z 3));have hsz:=aC Z 4;have hks:=fB Z hnl 10;have hAx:=hI.ha (by rw[<-kk lz 4 10 hsz (by decide)];exact hks);exact br 4 Z (aq rfl) (dy rfl (aw Z dq 3 54) (Ec (ue hAx hp))) rfl (hI.keep hsz);exact br 5 Z (aq rfl) (sC rfl (Z.old' 4) Xt za) rfl (hI.keep (aC Z 5));have hsz:=aC Z 6;have hka:=fB Z hnl 7;have hks:=fB Z hnl 10;have hb:Below wx.heap.size wx (wx.alloc _):=cg.alloc (au _) (.cells (aS h) 30);exact uC 6 Z (aq rfl) (NN.VI.ny rfl (aw Z dq 5 56) (DI _ za wx)) (hC.trans (Kp.of (F:=fun i=>i=b\/i=gH) hb) (fun i hi _=>hi)) rfl (hI.built hsz hka hks (by decide) (by decide) (by rw[Z.Vr];exact(show 57<108 by decide)) rfl);have hsz:=aC Z 7;have hks:=fB Z hnl 10;have hkb:lz.getD 6 false=true:=dq ⟨6,.data⟩ (by simp) rfl;obtain⟨g,cs,rfl,hg,hgh⟩:=hI.bu hkb hnl;obtain⟨v',w',hr,g1,g2,g3⟩:=yp (ρ:=a.eval) (x:=.tmp 55) (y:=.tmp 57) (Ts:=68) Tryz.underlying68 Eg (by decide) (by decide) za (tX h) (aw Z dq 4 55) (hI.ro hnl) hg hgh (by omega);exact uC 7 Z (aq rfl) (hr _ rfl rfl) (hC.trans (Kp.gb (F:=fun i=>i=b\/i=gH) g2 (fun k hk=>.inr (Option.some.inj hk).symm)) (fun i hi _=>hi)) rfl (hI.appended hsz hks (by decide) (by rw[Z.Vr];exact(show 58<108 by decide)) rfl g1 g2 g3 hlx (fun e=>V2.out.nH (Option.some.inj e).symm));exact br 8 Z (aq rfl) (dR rfl (aw Z dq 0 51)) rfl (hI.keep (aC Z 8));exact br 9 Z (aq rfl) (fg rfl (aw Z dq 8 59) (tH wx b)) rfl (hI.keep (aC Z 9))
  ·have hsz:=aC Z 10;have hka:lz.getD 7 false=true:=dq ⟨7,.data⟩ (by simp) rfl;obtain⟨v',cs,rfl,hv',hr',hl'⟩:=hI.ap hka hnl;obtain⟨g',c',rfl⟩:=lV hr' (jf _);have hAx:=hI.ha hnl;have kb:Kp (fun i=>i=b) wx (wx.setCell ⟨b,83,none⟩ (.slice (some ⟨g',0,none⟩) (n+1) c')):=Kp.gb (jl wx b 83 _) (fun k hk=>(Option.some.inj hk).symm)
   exact uD 10 Z (aq rfl) (nu rfl (aw Z dq 9 60) hv' (D4 (Has.free hAx 83) (ue hAx hp))) (hC.trans kb (fun i hi _=>.inl hi)) rfl (mc.stored hsz (by decide) hka rfl (qu hAx hp _ 0 rfl) (aF hr' kb (fun i hi e=>by
    obtain⟨_,k⟩:=iD hr' hi;exact dK k hAx.out (by decide) e)) hl')
 intro lz a' v7 hall Z;have hC:=Z.c;obtain⟨vH,cs,rfl,hA,rH,lH⟩:=Z.i.st (hall 10 (by decide));have e0:a'.eval (.tmp 0)=.pointer (some ⟨b,0,none⟩):=Z.old' 0;have e4:a'.eval (.tmp 4)=.pointer (some ⟨bH,0,none⟩):=Z.old' 4;have e10:a'.eval (.tmp 10)=.int .i64 (j:Int):=Z.old' 10;obtain⟨u,hu⟩:∃u:Nat->Value,∀t,u t=a'.eval (.tmp t):=⟨_,fun _=>rfl⟩;rw[iz a' 108 u Z.Vr Z.defers hu];rw[<-hu]at e0 e4 e10;clear hu Z hall;simp only[List.range,List.range.loop,bZ,cx];rw[e0,e4,e10];clear e0 e4 e10;replace hH:aX v7 bH h:=hC.has hH fH;replace rI:=aF rI hC (fun i hi=>fun h=>by have e:gI=i:=Option.some.inj hi;exact h.elim (fun h=>V2.out.nI (e.trans h).symm) (fun h=>V2.out.HI.symm (e.trans h)));replace rA:=aF rA hC (fun i hi=>fun h=>by have e:gA=i:=Option.some.inj hi;exact h.elim (fun h=>V2.out.nA (e.trans h).symm) (fun h=>V2.out.HA.symm (e.trans h)));replace rW:=aF rW hC (fun i hi=>fun h=>by have e:gW=i:=Option.some.inj hi;exact h.elim (fun h=>V2.out.nW (e.trans h).symm) (fun h=>V2.out.HW.symm (e.trans h)));replace HK:=h_ (HK.out.trans hC (fun i hi _=>hi.elim .inl (fun h=>.inr (.inl h))));have LH:Hid (∀k,vH.ownBlock=some k->k=gH\/w.heap.size<=k):=h_ fun k hk=>lH.elim (fun e=>.inl (Option.some.inj (e.symm.trans hk)).symm) (fun⟨g,e,hg⟩=>.inr (by have:=Option.some.inj (e.symm.trans hk);have:=Yp.out;omega))
 replace Yp:Hid (w.heap.size<=v7.heap.size):=h_ (ax Yp.out hC.size);clear hC lH;have VN:=hA.out;obtain⟨_,h0⟩:=iD rI (i:=gI) rfl;go_upto_region 15 with fail
 refine lG (by kernel_rfl) (fun w'=>Kp (fun i=>i=b\/i=gI) v7 w') (fun i v' _=>U' b (.slice (some ⟨gI,0,none⟩) n cI) h id i v') (fun l a w'=>mc 7 8 11 68 69 v7.heap.size 28 72 32 (fun cs=>cs=ae id) (.slice (some ⟨gI,0,none⟩) n cI) n xI b (fun u=>lU p vH u (.slice (some ⟨gA,0,none⟩) n cA) (.slice (some ⟨gW,0,none⟩) n cW) room) l a w') (fun _ _=>True) (fun _ _=>trivial) (fun _ _ _ _ _ _ h=>h) (by kernel_rfl) (Kp.of cg.drew) ?_ ?_ ?_;exact fun l hl=>mc.zero hl (aF rI (Kp.of (F:=fun _=>False) cg.drew) (fun _ _ h=>h)) (Has.drew hA)
 ·intro i o lz a wx ho' hnl dq Z;have hC:=Z.c;have hI:=Z.i;have hi:i<12:=(dA.1 ho').1;have Xt:aX wx bH h:=hC.has hH fI;have hlx:v7.heap.size<=wx.heap.size:=hC.size;obtain rfl|rfl|rfl|rfl|rfl|rfl|rfl|rfl|rfl|rfl|rfl|rfl:i=0\/i=1\/i=2\/i=3\/i=4\/i=5\/i=6\/i=7\/i=8\/i=9\/i=10\/i=11:=by omega
  all_goals obtain rfl:=Option.some.inj ho'
  exact br 0 Z (aq rfl) (NN.fs rfl) (Z.old' 0) (hI.keep (aC Z 0));exact br 1 Z (aq rfl) (NN.fs rfl) (Z.old' 0) (hI.keep (aC Z 1));exact br 2 Z (aq rfl) (dR rfl (aw Z dq 1 62)) rfl (hI.keep (aC Z 2));exact br 3 Z (aq rfl) (fg rfl (aw Z dq 2 63) (tJ wx b)) rfl (hI.keep (aC Z 3));have hsz:=aC Z 4;have hks:=fB Z hnl 11;have hAx:=hI.ha (by rw[<-kk lz 4 11 hsz (by decide)];exact hks);exact br 4 Z (aq rfl) (dy rfl (aw Z dq 3 64) (GJ (FJ hAx hp))) rfl (hI.keep hsz);exact br 5 Z (aq rfl) (sC rfl (Z.old' 4) Xt za) rfl (hI.keep (aC Z 5))
  ·have hsz:=aC Z 6;have e66:a.eval (.tmp 66)=.agg (aS h):=(aw Z dq 5 66);exact qF (S:=rQ) 6 Z (aq rfl) (f:=75) (args:=#[a.eval (.tmp 66)]) (by kernel_rfl) (by rw[e66];exact KI.out wx) (fun w' hb=>⟨hC.trans (Kp.of (F:=fun i=>i=b\/i=gI) hb) (fun i hi _=>hi),trivial,rfl,(hI.on hb).keep hsz⟩)
  have hsz:=aC Z 7;have hka:=fB Z hnl 8;have hks:=fB Z hnl 11;have hb:Below wx.heap.size wx (wx.alloc _):=cg.alloc (au _) (.cells (ae id) 28);exact uC 7 Z (aq rfl) (NN.VI.ny rfl (aw Z dq 6 67) (NL _ zI wx)) (hC.trans (Kp.of (F:=fun i=>i=b\/i=gI) hb) (fun i hi _=>hi)) rfl (hI.built hsz hka hks (by decide) (by decide) (by rw[Z.Vr];exact(show 68<108 by decide)) rfl);have hsz:=aC Z 8;have hks:=fB Z hnl 11;have hkb:lz.getD 7 false=true:=dq ⟨7,.data⟩ (by simp) rfl;obtain⟨g,cs,rfl,hg,hgh⟩:=hI.bu hkb hnl;obtain⟨v',w',hr,g1,g2,g3⟩:=yp (ρ:=a.eval) (x:=.tmp 65) (y:=.tmp 68) (Ts:=69) Tryz.underlying69 Ej (by decide) (by decide) zI (by rw[lP];exact Lib.byteCells_one id) (aw Z dq 4 65) (hI.ro hnl) hg hgh (by omega);exact uC 8 Z (aq rfl) (hr _ rfl rfl) (hC.trans (Kp.gb (F:=fun i=>i=b\/i=gI) g2 (fun k hk=>.inr (Option.some.inj hk).symm)) (fun i hi _=>hi)) rfl (hI.appended hsz hks (by decide) (by rw[Z.Vr];exact(show 69<108 by decide)) rfl g1 g2 g3 hlx (fun e=>V2.out.nI (Option.some.inj e).symm));exact br 9 Z (aq rfl) (dR rfl (aw Z dq 0 61)) rfl (hI.keep (aC Z 9));exact br 10 Z (aq rfl) (fg rfl (aw Z dq 9 70) (tJ wx b)) rfl (hI.keep (aC Z 10))
  ·have hsz:=aC Z 11;have hka:lz.getD 8 false=true:=dq ⟨8,.data⟩ (by simp) rfl;obtain⟨v',cs,rfl,hv',hr',hl'⟩:=hI.ap hka hnl;obtain⟨g',c',rfl⟩:=lV hr' (jf _);have hAx:=hI.ha hnl;have kb:Kp (fun i=>i=b) wx (wx.setCell ⟨b,84,none⟩ (.slice (some ⟨g',0,none⟩) (n+1) c')):=Kp.gb (jl wx b 84 _) (fun k hk=>(Option.some.inj hk).symm)
   exact uD 11 Z (aq rfl) (nu rfl (aw Z dq 10 71) hv' (Dt (Has.free hAx 84) (FJ hAx hp))) (hC.trans kb (fun i hi _=>.inl hi)) rfl (mc.stored hsz (by decide) hka rfl (qu hAx hp _ 1 rfl) (aF hr' kb (fun i hi e=>by
    obtain⟨_,k⟩:=iD hr' hi;exact dK k hAx.out (by decide) e)) hl')
 intro lz a' v8 hall Z;have hC:=Z.c;obtain⟨vI,cs,rfl,hA,rI,lI⟩:=Z.i.st (hall 11 (by decide));have e0:a'.eval (.tmp 0)=.pointer (some ⟨b,0,none⟩):=Z.old' 0;have e4:a'.eval (.tmp 4)=.pointer (some ⟨bH,0,none⟩):=Z.old' 4;have e10:a'.eval (.tmp 10)=.int .i64 (j:Int):=Z.old' 10;obtain⟨u,hu⟩:∃u:Nat->Value,∀t,u t=a'.eval (.tmp t):=⟨_,fun _=>rfl⟩;rw[iz a' 108 u Z.Vr Z.defers hu];rw[<-hu]at e0 e4 e10;clear hu Z hall;simp only[List.range,List.range.loop,bZ,cx];rw[e0,e4,e10];clear e0 e4 e10;replace hH:aX v8 bH h:=hC.has hH fI;replace rH:=aF rH hC (fun i hi=>fun h=>by obtain⟨_,k⟩:=iD rH hi;exact h.elim (fun h=>dK k VN (by decide) h) (fun h=>dK k h0 (by decide) h));replace rA:=aF rA hC (fun i hi=>fun h=>by have e:gA=i:=Option.some.inj hi;exact h.elim (fun h=>V2.out.nA (e.trans h).symm) (fun h=>V2.out.IA.symm (e.trans h)));replace rW:=aF rW hC (fun i hi=>fun h=>by have e:gW=i:=Option.some.inj hi;exact h.elim (fun h=>V2.out.nW (e.trans h).symm) (fun h=>V2.out.IW.symm (e.trans h)));replace HK:=h_ (HK.out.trans hC (fun i hi _=>hi.elim .inl (fun h=>.inr (.inr (.inl h)))));have LI:Hid (∀k,vI.ownBlock=some k->k=gI\/w.heap.size<=k):=h_ fun k hk=>lI.elim (fun e=>.inl (Option.some.inj (e.symm.trans hk)).symm) (fun⟨g,e,hg⟩=>.inr (by have:=Option.some.inj (e.symm.trans hk);have:=Yp.out;omega))
 replace Yp:Hid (w.heap.size<=v8.heap.size):=h_ (ax Yp.out hC.size);clear hC lI;replace VN:=hA.out;obtain⟨_,h0⟩:=iD rW (i:=gW) rfl;go_upto_region 16 with fail
 refine lG (by kernel_rfl) (fun w'=>Kp (fun i=>i=b\/i=gW) v8 w') (fun i v' _=>Vf b bH gW j z xo xs (.slice (some ⟨gW,0,none⟩) n cW) h.bits i v') (fun l a w'=>mc 16 17 20 88 89 v8.heap.size 26 72 4 (fun cs=>∃z,(z<NN.Nm.ak/\z=xs)/\cs=NN.aa z) (.slice (some ⟨gW,0,none⟩) n cW) n xW b (fun u=>lU p vH vI (.slice (some ⟨gA,0,none⟩) n cA) u room) l a w') (fun _ _=>True) (fun _ _=>trivial) (fun _ _ _ _ _ _ h=>h) (by kernel_rfl) (Kp.of cg.drew) ?_ ?_ ?_;exact fun l hl=>mc.zero hl (aF rW (Kp.of (F:=fun _=>False) cg.drew) (fun _ _ h=>h)) (Has.drew hA)
 ·intro i o lz a wx ho' hnl dq Z;have hC:=Z.c;have hI:=Z.i;have hi:i<21:=(dA.1 ho').1;have Xt:aX wx bH h:=hC.has hH fW;have hlx:v8.heap.size<=wx.heap.size:=hC.size;obtain rfl|rfl|rfl|rfl|rfl|rfl|rfl|rfl|rfl|rfl|rfl|rfl|rfl|rfl|rfl|rfl|rfl|rfl|rfl|rfl|rfl:i=0\/i=1\/i=2\/i=3\/i=4\/i=5\/i=6\/i=7\/i=8\/i=9\/i=10\/i=11\/i=12\/i=13\/i=14\/i=15\/i=16\/i=17\/i=18\/i=19\/i=20:=by omega
  all_goals obtain rfl:=Option.some.inj ho'
  exact br 0 Z (aq rfl) (NN.fs rfl) (Z.old' 0) (hI.keep (aC Z 0));exact br 1 Z (aq rfl) (NN.fs rfl) (Z.old' 0) (hI.keep (aC Z 1));exact br 2 Z (aq rfl) (dR rfl (aw Z dq 1 73)) rfl (hI.keep (aC Z 2));exact br 3 Z (aq rfl) (fg rfl (aw Z dq 2 74) (ql wx b)) rfl (hI.keep (aC Z 3));have hsz:=aC Z 4;have hks:=fB Z hnl 20;have hAx:=hI.ha (by rw[<-kk lz 4 20 hsz (by decide)];exact hks);exact br 4 Z (aq rfl) (dy rfl (aw Z dq 3 75) (CR (Bb hAx hp))) rfl (hI.keep hsz);exact br 5 Z (aq rfl) (NN.fs rfl) (Z.old' 0) (hI.keep (aC Z 5));exact br 6 Z (aq rfl) (dR rfl (aw Z dq 5 77)) rfl (hI.keep (aC Z 6));exact br 7 Z (aq rfl) (fg rfl (aw Z dq 6 78) (ql wx b)) rfl (hI.keep (aC Z 7));have hsz:=aC Z 8;have hks:=fB Z hnl 20;have hAx:=hI.ha (by rw[<-kk lz 8 20 hsz (by decide)];exact hks);exact br 8 Z (aq rfl) (dy rfl (aw Z dq 7 79) (CR (Bb hAx hp))) rfl (hI.keep hsz);exact br 9 Z (aq rfl) (NN.fs rfl) (Z.old' 10) (hI.keep (aC Z 9));exact br 10 Z (aq rfl) (fY rfl (aw Z dq 8 80) (aw Z dq 9 81) (T9 wx gW j n cW HJ.out)) rfl (hI.keep (aC Z 10));have hsz:=aC Z 11;have hka:=fB Z hnl 17;exact br 11 Z (aq rfl) (MS rfl (aw Z dq 10 82) (HWj.out _ (hI.ro (by rw[<-kk lz 11 17 hsz (by decide)];exact hka)))) rfl (hI.keep hsz);exact br 12 Z (aq rfl) (fg rfl (Z.old' 4) (tx wx bH)) rfl (hI.keep (aC Z 12));exact br 13 Z (aq rfl) (NN.pg rfl (aw Z dq 12 84) (Xt.bits ho)) rfl (hI.keep (aC Z 13))
  ·have hsz:=aC Z 14;have e85:a.eval (.tmp 85)=.int .i64 h.bits:=(aw Z dq 13 85);refine CA (S:=rQ) 14 Z (aq rfl) (f:=76) (args:=#[a.eval (.tmp 85)]) (by kernel_rfl) ?_;rw[e85];refine(KO.out wx).mono ?_;rintro e w' ⟨zq,hq,rfl,hb⟩;exact⟨_,rfl,hC.trans (Kp.of (F:=fun i=>i=b\/i=gW) hb) (fun i hi _=>hi),trivial,⟨zq,hq,rfl⟩,(hI.on hb).keep hsz⟩
  ·have hsz:=aC Z 15;have e83:a.eval (.tmp 83)=.agg (NN.aa z):=(aw Z dq 11 83);obtain⟨zb,hzb,e86⟩:wu xo (a.eval (.tmp 86)):=(aw Z dq 14 86);refine CA (S:=rQ) 15 Z (aq rfl) (f:=80) (args:=#[a.eval (.tmp 83),a.eval (.tmp 86)]) (by kernel_rfl) ?_;rw[e83,e86];refine(KS.out zb hzb wx).mono ?_;rintro e w' ⟨zq,hq,rfl,hb⟩;exact⟨_,rfl,hC.trans (Kp.of (F:=fun i=>i=b\/i=gW) hb) (fun i hi _=>hi),trivial,⟨zq,hq,rfl⟩,(hI.on hb).keep hsz⟩
  have hsz:=aC Z 16;have hka:=fB Z hnl 17;have hks:=fB Z hnl 20;obtain⟨zb,hzb,e87⟩:wu xs (a.eval (.tmp 87)):=(aw Z dq 15 87);have hb:Below wx.heap.size wx (wx.alloc _):=cg.alloc (au _) (.cells (NN.aa zb) 26);exact uC 16 Z (aq rfl) (NN.VI.ny rfl e87 (IV _ (NN.jE zb) wx)) (hC.trans (Kp.of (F:=fun i=>i=b\/i=gW) hb) (fun i hi _=>hi)) rfl (hI.built hsz hka hks (by decide) (by decide) (by rw[Z.Vr];exact(show 88<108 by decide)) ⟨zb,hzb,rfl⟩);have hsz:=aC Z 17;have hks:=fB Z hnl 20;have hkb:lz.getD 16 false=true:=dq ⟨16,.data⟩ (by simp) rfl;obtain⟨g,cs,⟨zb,hzb,rfl⟩,hg,hgh⟩:=hI.bu hkb hnl;obtain⟨v',w',hr,g1,g2,g3⟩:=yp (ρ:=a.eval) (x:=.tmp 76) (y:=.tmp 88) (Ts:=70) Tryz.underlying70 J0 (by decide) (by decide) (NN.jE zb) (Cq zb) (aw Z dq 4 76) (hI.ro hnl) hg hgh (by omega);exact uC 17 Z (aq rfl) (hr _ rfl rfl) (hC.trans (Kp.gb (F:=fun i=>i=b\/i=gW) g2 (fun k hk=>.inr (Option.some.inj hk).symm)) (fun i hi _=>hi)) rfl (hI.appended hsz hks (by decide) (by rw[Z.Vr];exact(show 89<108 by decide)) ⟨zb,hzb,rfl⟩ g1 g2 g3 hlx (fun e=>V2.out.nW (Option.some.inj e).symm));exact br 18 Z (aq rfl) (dR rfl (aw Z dq 0 72)) rfl (hI.keep (aC Z 18));exact br 19 Z (aq rfl) (fg rfl (aw Z dq 18 90) (ql wx b)) rfl (hI.keep (aC Z 19))
  ·have hsz:=aC Z 20;have hka:lz.getD 17 false=true:=dq ⟨17,.data⟩ (by simp) rfl;obtain⟨v',cs,⟨zb,hzb,rfl⟩,hv',hr',hl'⟩:=hI.ap hka hnl;obtain⟨g',c',rfl⟩:=lV hr' (jf _);have hAx:=hI.ha hnl;have kb:Kp (fun i=>i=b) wx (wx.setCell ⟨b,86,none⟩ (.slice (some ⟨g',0,none⟩) (n+1) c')):=Kp.gb (jl wx b 86 _) (fun k hk=>(Option.some.inj hk).symm)
   exact uD 20 Z (aq rfl) (nu rfl (aw Z dq 19 91) hv' (AZ (Has.free hAx 86) (Bb hAx hp))) (hC.trans kb (fun i hi _=>.inl hi)) rfl (mc.stored hsz (by decide) hka ⟨zb,hzb,rfl⟩ (qu hAx hp _ 3 rfl) (aF hr' kb (fun i hi e=>by
    obtain⟨_,k⟩:=iD hr' hi;exact dK k hAx.out (by decide) e)) hl')
 intro lz a' v9 hall Z;have hC:=Z.c;obtain⟨vW,cs,⟨zb,hzb,rfl⟩,hA,rW,lW⟩:=Z.i.st (hall 20 (by decide));have e0:a'.eval (.tmp 0)=.pointer (some ⟨b,0,none⟩):=Z.old' 0;have e4:a'.eval (.tmp 4)=.pointer (some ⟨bH,0,none⟩):=Z.old' 4;have e10:a'.eval (.tmp 10)=.int .i64 (j:Int):=Z.old' 10;obtain⟨u,hu⟩:∃u:Nat->Value,∀t,u t=a'.eval (.tmp t):=⟨_,fun _=>rfl⟩;rw[iz a' 108 u Z.Vr Z.defers hu];rw[<-hu]at e0 e4 e10;clear hu Z hall;simp only[List.range,List.range.loop,bZ,cx];rw[e0,e4,e10];clear e0 e4 e10;replace hH:aX v9 bH h:=hC.has hH fW;replace rH:=aF rH hC (fun i hi=>fun h=>by obtain⟨_,k⟩:=iD rH hi;exact h.elim (fun h=>dK k VN (by decide) h) (fun h=>dK k h0 (by decide) h));replace rI:=aF rI hC (fun i hi=>fun h=>by obtain⟨_,k⟩:=iD rI hi;exact h.elim (fun h=>dK k VN (by decide) h) (fun h=>dK k h0 (by decide) h));replace rA:=aF rA hC (fun i hi=>fun h=>by have e:gA=i:=Option.some.inj hi;exact h.elim (fun h=>V2.out.nA (e.trans h).symm) (fun h=>V2.out.AW (e.trans h)));replace HK:=h_ (HK.out.trans hC (fun i hi _=>hi.elim .inl (fun h=>.inr (.inr (.inr (.inr h))))));have LW:Hid (∀k,vW.ownBlock=some k->k=gW\/w.heap.size<=k):=h_ fun k hk=>lW.elim (fun e=>.inl (Option.some.inj (e.symm.trans hk)).symm) (fun⟨g,e,hg⟩=>.inr (by have:=Option.some.inj (e.symm.trans hk);have:=Yp.out;omega))
 replace Yp:Hid (w.heap.size<=v9.heap.size):=h_ (ax Yp.out hC.size);clear hC lW;have HZb:=h_ hzb;clear VN h0 hzb;have hb2:Below v9.heap.size v9 (v9.alloc (.cells #[.int .i64 (j:Int)] 3)):=cu;have k2:=Kp.of (F:=fun _=>False) hb2;have rA2:=aF rA k2 (fun _ _ h=>h);have hA2:=k2.has hA (fun h=>h);have hz2:(v9.alloc (.cells #[.int .i64 (j:Int)] 3)).cell? ⟨v9.heap.size,0,none⟩=some (.int .i64 (j:Int)):=Has.cell (Has.new _ _) 0;have c85:=Ah hA hp;have hmk:=fun w=>sj w (j:Int)
 go_upto_region 18 with(first
  | ((with_reducible refine Ua rfl _ _ rfl (.slice (some ⟨gA,0,none⟩) n cA) n lA rfl rA2 v9.heap.size (j:Int) rfl hz2 Xc ?_);intro vA v10 YF ZD ae4;obtain⟨gA',ZZ,rfl⟩:=lV YF (jf _);have Xd:Has v10 b (lU p vH vI (.slice (some ⟨gA,0,none⟩) n cA) vW room) 72:=(ZD.block b (Has.lt hA2) (fun e=>V2.out.nA (Option.some.inj e))).trans hA2;have f85:=Has.free Xd 85;have d85:=Ah Xd hp)
  | (with_reducible refine QX rfl _ _ rfl ⟨b,85,none⟩ _ _ _ _ rfl rfl f85 d85 ?_))
 simp only[Act.put];have lA:∀k,(Value.slice (some ⟨gA',0,none⟩) (n+1) ZZ).ownBlock=some k->k=gA\/w.heap.size<=k:=fun k hk=>ae4.elim (fun e=>.inl (Option.some.inj (e.symm.trans hk)).symm) (fun e=>.inr (by have:=Option.some.inj (e.symm.trans hk);have:=Yp.out;have:=hb2.size;omega))
 have LA:=h_ lA;have kA:Kp (fun i=>i=b\/i=gA) v9 (v10.setCell ⟨b,85,none⟩ (.slice (some ⟨gA',0,none⟩) (n+1) ZZ)):=((Kp.of (F:=fun i=>i=b\/i=gA) hb2).trans (Kp.gb (F:=fun i=>i=b\/i=gA) ZD (fun k hk=>.inr (Option.some.inj hk).symm)) (fun i hi _=>hi)).trans (Kp.gb (F:=fun i=>i=b\/i=gA) (jl v10 b 85 _) (fun k hk=>.inl (Option.some.inj hk).symm)) (fun i hi _=>hi);have YD:=qu Xd hp (.slice (some ⟨gA',0,none⟩) (n+1) ZZ) 2 rfl
 have ae5:=aF YF (Kp.gb (F:=fun i=>i=b) (jl v10 b 85 (.slice (some ⟨gA',0,none⟩) (n+1) ZZ)) (fun k hk=>(Option.some.inj hk).symm)) (fun i hi e=>by
  obtain⟨_,k⟩:=iD YF hi;exact dK k Xd.out (by decide) e)
 have VN:=hA.out;obtain⟨_,h0⟩:=iD rA (i:=gA) rfl;replace rH:=aF rH kA (fun i hi=>fun h=>by obtain⟨_,k⟩:=iD rH hi;exact h.elim (fun h=>dK k VN (by decide) h) (fun h=>dK k h0 (by decide) h));replace rI:=aF rI kA (fun i hi=>fun h=>by obtain⟨_,k⟩:=iD rI hi;exact h.elim (fun h=>dK k VN (by decide) h) (fun h=>dK k h0 (by decide) h));replace rW:=aF rW kA (fun i hi=>fun h=>by obtain⟨_,k⟩:=iD rW hi;exact h.elim (fun h=>dK k VN (by decide) h) (fun h=>dK k h0 (by decide) h));replace HK:=h_ (HK.out.trans kA (fun i hi _=>hi.elim .inl (fun h=>.inr (.inr (.inr (.inl h))))));clear VN h0 kA lA hA hA2 rA rA2 k2 hz2 hmk hb2 ZD ae4 f85 d85 c85 Xd YF hH;generalize aj7:v10.setCell ⟨b,85,none⟩ (.slice (some ⟨gA',0,none⟩) (n+1) ZZ)=v11 at*;clear aj7;have ZE:Has v11 b (lU p vH vI (.slice (some ⟨gA',0,none⟩) (n+1) ZZ) vW room) 72:=YD;clear YD;obtain⟨gH',cH',rfl⟩:=lV rH (jf _);have HF:=h_ (HQ3.out rfl rfl v11 _ vI _ vW zb HZb.out ZE rH rI ae5 rW LH.out LI.out LA.out LW.out HK.out);have XJ:=ue ZE hp;clear ZE rH rI ae5 rW HK;obtain⟨n1,hn1⟩:∃n1,n1=n+1:=⟨_,rfl⟩;rw[<-hn1]at XJ;have wm:IntKind.i64.wrap ((n1:Int)-1)=(n:Int):=by rw[IntKind.wrap_i64];omega
 clear hn1;go_wp2_with fail
 go_ret3
 exact HF.out
end An
namespace An
open Go.RowKit Mem Sc
open Ar (av Ru aN Ok)
theorem Bt(r:Ru)(e:av)(h:Hd)(now:Int):0<=Ar.oY r e h now:=by
 unfold Ar.oY wi;repeat' split
 all_goals omega
variable{r:Ru}
theorem SC{p:NN.Pr}{t:Tl}(h:Alike p t r)(hs:List Hd)(hd:Hd)(now:Int):pq p r.gs r.cs (kC p r.g hs hs.length) hd now=pq r.p r.gs r.cs (kC r.p r.g hs hs.length) hd now:=by obtain⟨pl,pi,ps,pf,pe,pt⟩:=p;obtain⟨⟨rl,ri,rs,rf,re,rt⟩,_,_,_,_⟩:=r;obtain⟨h1,h2,h3,h4,h5,h6⟩:=h;simp only at h1 h2 h3 h4 h5;subst h1 h2 h3 h4 h5;rfl
variable{w:World}{B b:Nat}{F:Nat->Prop}{M:List av}
theorem km.keep{w':World}(h:km w B F b r M)(hb:Bl w w'):km w' B (mD F w w') b r M:=by have h0:=h.1;have h1:=h.2.1;have hs:=hb.size;exact(h.below hb).wide (fun _ hi=>.inl hi) fun i hi=>hi.elim (fun hi=>⟨(h1 i hi).1,by have:=(h1 i hi).2;omega⟩) fun hi=>⟨ax h0 hi.1,hi.2⟩
theorem yG(hR:km w B F b r M)(hM:Ok r M)(hl:M.length<=900)(hgl:r.gs.length<=1000)(hcl:r.cs.length<=1000)(hiv:2<=r.p.Vv)(h:Hd)(ho:h.ok)(now:Int)(n1:-9223372036854775808<=now)(n2:now<=9223372036854775807):aU 40 #[af b,.agg (aS h),i_ now] w fun e w'=>e=.returned (.tuple #[i_ (Ar.add r M h now).1.1,i_ (Ar.add r M h now).1.2.1,i_ (Ar.add r M h now).1.2.2])/\km w' B (mD F w w') b r (Ar.add r M h now).2/\Kp F w w':=by
 have hpos:=hM.pos;have KG:∀g,decide h.P=g->bG w 73 #[.agg (aS h)] (.bool g):=fun g hg=>h_ fun w' _=>by rw[<-hg];exact qD h ho w'
 by_cases hP:h.P
 ·have Xx:=KG true (aG hP);have KI:CN 75 #[.agg (aS h)] (.agg (ae h.id)):=h_ fun w'=>mK h ho w'
  have KI2:bG w 75 #[.agg (aS h)] (.agg (ae h.id)):=h_ fun w' _=>mK h ho w'
  cases h1:Ar.oA r.g M h.id with
  | some i=>
   have ea:Ar.add r M h now=((((i:Nat):Int),(0:Int),(0:Int)),M):=by unfold Ar.add;rw[ah (fun hh=>hh hP),h1]
   rw[ea];refine(R' b h ho now w Xx h.id KI2 i (h_ fun w' hb=>?_)).mono ?_;have:=Bh (hR.below hb) hpos (by omega) h.id (lJ h);rwa[h1]at this
   rintro e w' ⟨rfl,hb⟩;exact⟨rfl,hR.keep hb,Kp.of hb⟩
  | none=>
   have KF:bG w 77 #[af b,.agg (ae h.id)] (i_ (-1)):=h_ fun w' hb=>by
    have:=Bh (hR.below hb) hpos (by omega) h.id (lJ h);rwa[h1]at this
   cases h2:Ar.oA r.g M h.prev with
   | none=>
    have ea:Ar.add r M h now=((-1,2,5),M):=(by unfold Ar.add;rw[ah (fun hh=>hh hP),h1];simp only[h2]);rw[ea];refine(Sa b h ho now w Xx h.id KI2 KF (h_ fun w' hb=>?_)).mono ?_;have:=Bh (hR.below hb) hpos (by omega) h.prev ho.1;rwa[h2]at this
    rintro e w' ⟨rfl,hb⟩;exact⟨rfl,hR.keep hb,Kp.of hb⟩
   | some j=>
    have KP:bG w 77 #[af b,.agg (ae h.prev)] (i_ j):=h_ fun w' hb=>by
     have:=Bh (hR.below hb) hpos (by omega) h.prev ho.1;rwa[h2]at this
    obtain⟨d,hd,_⟩:=Ar.uP h2;have hjl:=(bk.1 hd).1;have eD:M.getD j aN=d:=(by rw[dC,hd];rfl);have hdl:=(hM.chain j d hd).1;have hR':=hR;obtain⟨b0,b1,b2,p,t,vH,vI,vA,vW,ws,h3,h4,h5,g1,g2,g3,g4⟩:=hR';have rH:=h3.WS;have rI:=h3.Xa;have rA:=h3.WT;have rW:=h3.Xb;rw[dS]at rH rI rA;have h5l:ws.length=M.length:=(by rw[h5,dS]);rw[h5l]at rW;obtain⟨gH,cH,rfl⟩:=lV rH hpos;obtain⟨gI,cI,rfl⟩:=lV rI hpos;obtain⟨gA,cA,rfl⟩:=lV rA hpos;obtain⟨gW,cW,rfl⟩:=lV rW hpos;obtain⟨z,hz⟩:∃z,ws[j]?=some z:=⟨_,aQ (by omega)⟩;have hzb:=h3.small z (ee hz)
    have hze:z=iK r d.hs:=by
     rw[h5,eK,hd]at hz;exact(Option.some.inj hz).symm
    have HWj:Hid (∀w':World,w'.ownsRow 0 26 4 (.slice (bs gW) M.length cW) M.length (ws.flatMap fun z=>(NN.aa z).toList)->w'.rangeAt gW (j*4) (NN.aa z).toList):=h_ fun w' hr=>by
     obtain⟨A,C,e,hA⟩:=wQ (fun z=>(NN.aa z).toList) 4 ws (fun z _=>by rw[g_,NN.jE]) j z hz;rw[e]at hr;obtain⟨g,c,e1,e2⟩:=qf hr hpos;rw[hA]at e2;cases e1;exact e2
    have KC:Hid (∀w',Below w.heap.size w w'->aU 79 #[af b,i_ j] w' fun e w''=>∃v,e=.returned v/\(∃ad c,v=.slice ad (d.hs.length+1) c/\bo w'' ad (r.g::d.hs))/\Below w'.heap.size w' w''):=h_ fun w' hb=>(J1 (hR.below hb) hM hl j d hd).mono fun e w'' ⟨ad,c,e1,e2,_,e3⟩=>⟨_,e1,⟨ad,c,rfl,e2⟩,e3⟩
    have ey:pq p r.gs r.cs (kC p r.g d.hs d.hs.length) h now=Ar.oY r d h now:=(SC h4 d.hs h now).trans (hM.ah9 hiv hd h now n1 n2)
    have KK:Hid (∀w' ad c,Below w.heap.size w w'->bo w' ad (r.g::d.hs)->ar 78 #[.agg (NN.aV p),.slice ad (d.hs.length+1) c,.agg (aS h),i_ now] w' (i_ (Ar.oY r d h now))):=h_ fun w' ad c hb hH=>by
     rw[<-ey];have hk:=h3.below hb;exact Ou p hk.VQ t hk.tt r.gs r.cs hk.gn hk.cn (by rw[hk.gn];exact hgl) (by rw[hk.cn];exact hcl) ad r.g d.hs _ c rfl (by omega) h ho now w' hH hk.VL.now hk.checks.now
    have hwp:=Bt r d h now;refine SQ b p h3.VQ r.room M.length gH cH gI cI gA cA gW cW _ _ _ (M.map av.up) h ho now w h3.has rH rI rA rW hl j hjl z hzb HWj Xx h.id (lJ h) KI KF KP (d.hs.length+1) (r.g::d.hs) KC (Ar.oY r d h now) KK _ (NN.Nm.cap (iK r d.hs+NN.ofBits h.bits)) (h_ (NN.Pp h.bits)) (h_ fun x hx=>?_) _ _ rfl rfl _ (h_ fun hy w' hb=>?_) (h_ fun hy hf w' hb=>?_) (h_ fun hy hf w' vH vI vA vW z' hz' a1 a2 a3 a4 a5 l1 l2 l3 l4 hk=>?_);exact fun w'=>(NN.y5 z x hzb hx.1 w').mono fun e w'' ⟨e1,e2⟩=>⟨_,⟨NN.Nm.sk _,by rw[hze,hx.2]⟩,e1,e2⟩
    have h3':¬Ar.oY r d h now=0:=(by have:=dX hy;omega);have ea:Ar.add r M h now=((-1,Ar.oY r d h now,8),M):=(by unfold Ar.add;rw[ah (fun hh=>hh hP),h1];simp only[h2,eD];rw[aj h3']);rw[ea];exact⟨rfl,hR.keep hb,Kp.of hb⟩;have h3':Ar.oY r d h now=0:=(by have:=fc hy;omega);have ea:Ar.add r M h now=((-1,0,6),M):=(by unfold Ar.add;rw[ah (fun hh=>hh hP),h1];simp only[h2,eD];rw[ah (fun hh=>hh h3'),aj (dX hf)]);rw[ea];exact⟨rfl,hR.keep hb,Kp.of hb⟩
    ·have h3':Ar.oY r d h now=0:=(by have:=fc hy;omega);have ea:Ar.add r M h now=((((M.length:Nat):Int),(0:Int),(0:Int)),M++[⟨d.hs++[h],(j:Int)⟩]):=(by unfold Ar.add;rw[ah (fun hh=>hh hP),h1];simp only[h2,eD];rw[ah (fun hh=>hh h3'),ah (fc hf)]);rw[ea];have fH:=g1 gH rfl;have fI:=g2 gI rfl;have fA:=g3 gA rfl;have fW:=g4 gW rfl;have ak:∀i,(i=b\/i=gH\/i=gI\/i=gA\/i=gW)->F i:=by rintro i (rfl|rfl|rfl|rfl|rfl)<;>assumption
     have nx:∀{T:TypeId}{size n:Nat}{v:Value}{xs:List Value}{g:Nat},F g->w'.ownsRow 0 T size v n xs->(∀k,v.ownBlock=some k->k=g\/w.heap.size<=k)->∀i,v.ownBlock=some i->mD F w w' i:=fun hg hr hv i hi=>(hv i hi).elim (fun e=>.inl (e▸hg)) (fun e=>.inr ⟨e,(dM hr hi).1⟩)
     have nb:∀i,mD F w w' i->¬i<B:=fun i hi hlt=>hi.elim (fun h=>by have:=(b1 i h).1;omega) (fun h=>by omega)
     have eh:(M++[(⟨d.hs++[h],(j:Int)⟩:av)]).map (av.h r.g)=M.map (av.h r.g)++[h]:=(by rw[ic,List.map_singleton,Ar.lY]);have ei:(M++[(⟨d.hs++[h],(j:Int)⟩:av)]).map (fun e=>(e.h r.g).id)=M.map (fun e=>(e.h r.g).id)++[h.id]:=by rw[ic,List.map_singleton,Ar.lY]
     refine⟨rfl,⟨ax b0 hk.size,fun i hi=>hi.elim (fun hi=>⟨(b1 i hi).1,b_ (b1 i hi).2 hk.size⟩) (fun hi=>⟨ax b0 hi.1,hi.2⟩),.inl b2,p,t,vH,vI,vA,vW,ws++[z'],?_,h4,by rw[ic,<-h5,hz'.2,List.map_singleton,Ei],nx fH a2 l1,nx fI a3 l2,nx fA a4 l3,nx fW a5 l4⟩,hk.mono fun i hi _=>ak i hi⟩;have ae6:∀i,i<B->¬(i=b\/i=gH\/i=gI\/i=gA\/i=gW):=fun i hi hf=>by have:=(b1 i (ak i hf)).1;omega
     exact{
      has:=a1,VQ:=h3.VQ,one:=h3.one,tt:=h3.tt,tok:=h3.tok,gn:=h3.gn,cn:=h3.cn
      WS:=by rw[eh,n0];simpa using a2
      Xa:=by rw[ei,n0];simpa using a3
      WT:=by rw[ic];simpa using a4
      Xb:=by rw[n0];simpa[h5l]using a5
      VL:=h3.VL.on hk ae6
      checks:=h3.checks.on hk ae6
      nb:=h3.nb
      nH:=fun k hk'=>nb k (nx fH a2 l1 k hk')
      nI:=fun k hk'=>nb k (nx fI a3 l2 k hk')
      nA:=fun k hk'=>nb k (nx fA a4 l3 k hk')
      nW:=fun k hk'=>nb k (nx fW a5 l4 k hk')
      lt:=fun i hi=>b_ (h3.lt i hi) hk.size
      du:=fun x hx=>by
       rw[eh,dL,kD]at hx;exact hx.elim (h3.du x) (fun e=>e▸ho)
      name:=fun x hx=>by
       rw[ei,dL,kD]at hx;exact hx.elim (h3.name x) (fun e=>e▸lJ h)
      small:=fun x hx=>by
       rw[dL,kD]at hx;exact hx.elim (h3.small x) (fun e=>e▸hz'.1) }
 ·have ea:Ar.add r M h now=((-1,1,8),M):=by unfold Ar.add;rw[aj hP]
  rw[ea];refine az (Mu b h ho now w (KG false (aE hP))) fun w' hb=>?_;exact⟨rfl,hR.keep hb,Kp.of hb⟩
open NN.VI
section
variable{ρ:Operand->Value}{o:Oper}{w:World}
theorem Az(w:World)(g:Nat):(Instr.fieldAt 60 (af g) 2).run Tryz.prog w=.ok (.pointer (some ⟨g,100,none⟩)) w:=by kernel_rfl
theorem Bg(w:World)(g:Nat):(Instr.fieldAt 60 (af g) 3).run Tryz.prog w=.ok (.pointer (some ⟨g,101,none⟩)) w:=by kernel_rfl
theorem ub(w:World)(g j n c:Nat)(hj:j<n):(Instr.indexAt 49 (.slice (bs g) n c) (i_ j)).run Tryz.prog w=.ok (.pointer (some ⟨g,j,none⟩)) w:=by go_simp
end
end An
namespace An
open Go.RowKit Mem Sc
open Ar (av Ru aN Ok)
open Ar (Lp)
def sY(ab:Nat)(lv:Value):Array Value:=#[af ab,lv]
def jU(w:World)(F:Nat->Prop)(b:Nat)(r:Ru)(M:List av)(ls:List Int):Prop:=(∀i,F i->i<w.heap.size)/\∃Fa ab lv,Has w b (sY ab lv) 119/\k9 w Fa ab r M/\w.ownsRow 0 3 1 lv ls.length (ls.map (Value.int .i64))/\Lp M ls/\F b/\(∀i,Fa i->F i)/\(∀i,lv.ownBlock=some i->F i)/\¬Fa b/\∀i,lv.ownBlock=some i->¬Fa i
section
variable{w w':World}{F G:Nat->Prop}{b:Nat}{r:Ru}{M:List av}{ls:List Int}
theorem jU.on(h:jU w F b r M ls)(k:Kp G w w')(hG:∀i,F i->¬G i):jU w' F b r M ls:=by obtain⟨hl,Fa,ab,lv,h1,h2,h3,h4,h5,h6,h7,h8,h9⟩:=h;exact⟨fun i hi=>b_ (hl i hi) k.size,Fa,ab,lv,k.has h1 (hG b h5),h2.on k fun i hi=>hG i (h6 i hi),aF h3 k fun i hi=>hG i (h7 i hi),h4,h5,h6,h7,h8,h9⟩
theorem jU.below(h:jU w F b r M ls)(hb:Bl w w'):jU w' F b r M ls:=h.on (G:=fun _=>False) (Kp.of hb) fun _ _ hf=>hf
theorem jU.wide(h:jU w F b r M ls)(hF:∀i,F i->G i)(hG:∀i,G i->i<w.heap.size):jU w G b r M ls:=by obtain⟨_,Fa,ab,lv,h1,h2,h3,h4,h5,h6,h7,h8,h9⟩:=h;exact⟨hG,Fa,ab,lv,h1,h2,h3,h4,hF b h5,fun i hi=>hF i (h6 i hi),fun i hi=>hF i (h7 i hi),h8,h9⟩
end
end An
namespace An
open Go.RowKit Mem Sc
open Ar (av Ru aN Ok)
open NN.VI
section
variable{ops:Array Oper}{rest:List Oper}{o:Oper}{a:Act}{w:World}{Q:Exit->Act->World->Prop}
theorem LZ(hgd:o.guard=none)(x y:Operand)(ho:o.op=.store 3 x y)(q:Addr)(z:Int)(u:Value)(hx:a.eval x=.pointer (some q))(hy:a.eval y=i_ z)(hf:w.frozen? q=false)(hc:w.cell? q=some u)(hk:wpList Tryz.prog ops Q rest (a.put o.dst undef) (w.setCell q (i_ z))):wpList Tryz.prog ops Q (o::rest) a w:=
 gk hgd fun _ hK=>by
  have hs:(storeVar 3 q (i_ z)).run Tryz.prog w=.ok () (w.setCell q (i_ z)):=by go_simp
  unfold Oper.wp;rw[nu ho hx hy hs];exact hK _ _ hk
end
section
variable{C:World->Prop}{a:Act}{o:Oper}{K:Act->Prop}
end
end An
namespace An
open Go.RowKit Mem Sc
open Ar (av Ru aN Ok Lp oR ma)
theorem K_(m:Nat)(hm:m<=9223372036854775807):∃k:Int,IntKind.i64.wrap ((m:Int)-1)=k/\bits .and .i64 (m:Int) k=((ma m:Nat):Int):=by
 refine⟨_,rfl,?_⟩;by_cases h0:m=0;subst h0;decide
 ·have e:IntKind.i64.wrap ((m:Int)-1)=((m-1:Nat):Int):=by rw[IntKind.wrap_i64];omega
  rw[e,NN.Gz _ _ (by omega) (by omega)];rfl
theorem xa(m:Nat)(hm:m<=9223372036854775807)(w:World):ar 126 #[i_ m] w (i_ ((ma m:Nat):Int)):=by
 obtain⟨k,h1,h2⟩:=K_ m hm;obtain⟨c,hc⟩:∃c:Int,c=((ma m:Nat):Int):=⟨_,rfl⟩;rw[<-hc]at h2|-;clear hc hm;obtain⟨mi,hm⟩:∃mi:Int,mi=(m:Int):=⟨_,rfl⟩;rw[<-hm]at h1 h2|-;clear hm;have hB:=aA w.heap.size w;go_enter Tryz.func126,Tryz.ntmps126;go_wp2_with fail
 go_ret;exact⟨rfl,hB⟩
theorem Dn(h:Int)(g1 g2:Bool)(q k c c2 c3:Int)(h1:decide (h<2)=g1)(hq:Int.tmod h 2=q)(h2:(q==0)=g2)(h3:IntKind.i64.wrap (h-1)=k)(h4:IntKind.i64.wrap (c2+1)=c3)(w:World)(K1:Hid (∀w',g1=false->g2=true->ar 126 #[i_ h] w' (i_ c)))(K2:Hid (∀w',g1=false->g2=false->ar 126 #[i_ k] w' (i_ c)))(K3:Hid (∀w',g1=false->g2=false->ar 126 #[i_ c] w' (i_ c2))):ar 85 #[i_ h] w (i_ (if g1 then 0 else if g2 then c else c3)):=by
 have hB:=aA w.heap.size w;cases g1
 ·cases g2
  ·go_enter Tryz.func85,Tryz.ntmps85;go_wp2_with fail
   refine az (K2.out _ (by simp) (by simp)) fun v1 hb=>?_;replace hB:=ai hB hb;clear hb;go_wp2_with fail
   refine az (K3.out _ (by simp) (by simp)) fun v2 hb=>?_;replace hB:=ai hB hb;clear hb;go_wp2_with fail
   go_ret;exact⟨rfl,hB⟩
  ·go_enter Tryz.func85,Tryz.ntmps85;go_wp2_with fail
   refine az (K1.out _ (by simp) (by simp)) fun v1 hb=>?_;replace hB:=ai hB hb;clear hb;go_wp2_with fail
   go_ret;exact⟨rfl,hB⟩
 ·go_enter Tryz.func85,Tryz.ntmps85;go_wp2_with fail
  go_ret;exact⟨rfl,hB⟩
theorem IZ(h:Int)(hh:h<=9223372036854775807)(h0:-9223372036854775808<=h)(w:World):ar 85 #[i_ h] w (i_ ((oR h.toNat:Nat):Int)):=by
 by_cases hs:h<2;have:=Dn h true (Int.tmod h 2==0) _ _ 0 0 _ (aG hs) rfl rfl rfl rfl w (h_ fun _ h=>by cases h) (h_ fun _ h=>by cases h) (h_ fun _ h=>by cases h);rw[Ar.Ny (by omega)];exact this
 ·obtain⟨n,rfl⟩:=eG (by omega:0<=h);have hq:Int.tmod (n:Int) 2=((n%2:Nat):Int):=by rw[iV (by omega)];omega
  rw[bU];by_cases he:n%2=0;have:=Dn (n:Int) false true _ _ ((ma n:Nat):Int) 0 _ (aE hs) hq (by rw[he];rfl) rfl rfl w (h_ fun w' _ _=>xa n (by omega) w') (h_ fun _ _ h=>by cases h) (h_ fun _ _ h=>by cases h);rw[Ar.L5 (by omega) he];exact this
  ·have e1:IntKind.i64.wrap ((n:Int)-1)=((n-1:Nat):Int):=by rw[IntKind.wrap_i64];omega
   have hc1:=Ar.wK (n-1);have hc2:=Ar.wK (ma (n-1));have e2:IntKind.i64.wrap (((ma (ma (n-1)):Nat):Int)+1)=((1+ma (ma (n-1)):Nat):Int):=by rw[IntKind.wrap_i64];omega
   have:=Dn (n:Int) false false _ _ ((ma (n-1):Nat):Int) ((ma (ma (n-1)):Nat):Int) _ (aE hs) hq (by rw[show n%2=1 by omega];rfl) e1 e2 w (h_ fun _ _ h=>by cases h) (h_ fun w' _ _=>xa (n-1) (by omega) w') (h_ fun w' _ _=>xa (ma (n-1)) (by omega) w');rw[Ar.Df (by omega) (by omega)];exact this
theorem PD(w:World):ar 64 #[.pointer none] w (.pointer none):=by
 have hB:=aA w.heap.size w;go_enter Tryz.func64,Tryz.ntmps64;go_wp2_with fail
 go_ret;exact⟨rfl,hB⟩
theorem vF(b ab:Nat)(w:World)(hv:w.cell? ⟨b,0,none⟩=some (af ab)):ar 64 #[af b] w (af ab):=by
 have hB:=aA w.heap.size w;go_enter Tryz.func64,Tryz.ntmps64;go_wp2_with fail
 go_ret;exact⟨rfl,hB⟩
def fz(w:World)(tp ap:Value):Prop:=∀w',Bl w w'->ar 64 #[tp] w' ap
theorem wY(tp ap:Value)(n:Int)(w:World)(KH:Hid (fz w tp ap))(KL:bG w 92 #[ap] (i_ n)):ar 57 #[tp] w (i_ n):=by
 have hB:=aA w.heap.size w;go_enter Tryz.func57,Tryz.ntmps57;go_wp2_with fail
 refine az (KH.out _ hB) fun v1 hb=>?_;replace hB:=ai hB hb;clear hb;go_wp2_with fail
 refine az (KL.out _ hB) fun v2 hb=>?_;replace hB:=ai hB hb;clear hb;go_wp2_with fail
 go_ret;exact⟨rfl,hB⟩
theorem Qb(tp ap:Value)(x y:Int)(g:Bool)(w:World)(KH:Hid (fz w tp ap))(KL:bG w 67 #[ap,i_ x,i_ y] (.bool g)):ar 31 #[tp,i_ x,i_ y] w (.bool g):=by
 have hB:=aA w.heap.size w;go_enter Tryz.func31,Tryz.ntmps31;go_wp2_with fail
 refine az (KH.out _ hB) fun v1 hb=>?_;replace hB:=ai hB hb;clear hb;go_wp2_with fail
 refine az (KL.out _ hB) fun v2 hb=>?_;replace hB:=ai hB hb;clear hb;go_wp2_with fail
 go_ret;exact⟨rfl,hB⟩
theorem wT(tp ap:Value)(k:Int)(e:En)(he:e.ok)(g:Bool)(w:World)(KH:Hid (fz w tp ap))(KL:bG w 65 #[ap,i_ k] (.tuple #[.agg (dc e),.bool g])):ar 29 #[tp,i_ k] w (.tuple #[.agg (dc e),.bool g]):=by
 have z0:=ki eo;have z1:=ki he;go_enter Tryz.func29,Tryz.ntmps29;go_upto_region 1 with fail
 generalize hw0:World.alloc _ _=v0;have hB:Bl w v0:=eT hw0;have hR:cV v0 w.heap.size ml:=by rw[<-hw0];exact kp w
 clear hw0;obtain⟨bR,hbR⟩:∃x,x=w.heap.size:=⟨_,rfl⟩;rw[<-hbR]at hR|-;have XH:Hid (w.heap.size<=bR):=h_ (by omega);clear hbR;go_wp2_with fail
 refine(KH.out _ hB).mono ?_;rintro x v1 ⟨rfl,hb⟩;replace hR:=hR.on hb;replace hB:=ai hB hb;clear hb;go_wp2_with fail
 refine(KL.out _ hB).mono ?_;rintro x v2 ⟨rfl,hb⟩;replace hR:=hR.on hb;replace hB:=ai hB hb;clear hb;go_wp2_with (with_reducible refine lu rfl _ _ rfl _ _ e rfl rfl rfl z1 hR z0 ?_)
 refine ay (GM Tryz.results29 _ _ _ rfl rfl (Has.row hR _) z1) rfl ⟨rfl,below_setRow hB XH.out _⟩
section
variable{w:World}{F:Nat->Prop}{b:Nat}{r:Ru}{M:List av}{ls:List Int}
theorem fz.nil(w:World):fz w (.pointer none) (.pointer none):=fun w' _=>PD w'
theorem jU.parts(h:jU w F b r M ls):∃Fa ab,fz w (af b) (af ab)/\k9 w Fa ab r M:=by obtain⟨hl,Fa,ab,lv,h1,h2,h3,h4,h5,h6,h7,h8,h9⟩:=h;exact⟨Fa,ab,fun w' hb=>vF b ab w' ((hb.cell (p:=⟨b,0,none⟩) (Has.lt h1)).trans (Has.cell h1 0)),h2⟩
theorem CE(h:jU w F b r M ls):ar 57 #[af b] w (i_ (M.length:Nat)):=by obtain⟨Fa,ab,k1,k2⟩:=h.parts;exact wY _ _ _ w (h_ k1) (h_ fun w' hb=>Ft (k2.below hb))
theorem iq(h:jU w F b r M ls){i:Nat}{e:av}(he:M[i]?=some e)(k:Int)(hk:k=(i:Nat)):ar 29 #[af b,i_ k] w (.tuple #[.agg (dc (cX r e)),.bool true]):=by obtain⟨Fa,ab,k1,k2⟩:=h.parts;exact wT _ _ _ _ (nj k2 he) _ w (h_ k1) (h_ fun w' hb=>NI (k2.below hb) he k hk)
theorem uK(h:jU w F b r M ls)(k:Int)(hk:¬(0<=k/\k<(M.length:Nat))):ar 29 #[af b,i_ k] w (.tuple #[.agg (dc pn),.bool false]):=by obtain⟨Fa,ab,k1,k2⟩:=h.parts;exact wT _ _ _ _ gC _ w (h_ k1) (h_ fun w' hb=>FR (k2.below hb) k hk)
end
theorem Qh(w:World):ar 57 #[.pointer none] w (i_ 0):=wY _ _ _ w (h_ (fz.nil w)) (h_ fun w' _=>len_nil w')
theorem Av(k:Int)(w:World):ar 29 #[.pointer none,i_ k] w (.tuple #[.agg (dc pn),.bool false]):=wT _ _ _ _ gC _ w (h_ (fz.nil w)) (h_ fun w' _=>EN k w')
end An
namespace An
open Go.RowKit Mem Sc
open Ar (av Ru aN Ok dB)
theorem MU{C:World->Prop}{a:Act}{o:Oper}{K:Act->Prop}(x:Operand)(ho:o.op=.load 26 x)(g off:Nat)(hx:a.eval x=.pointer (some ⟨g,off,none⟩))(z:Nat)(hC:∀w',C w'->w'.rangeAt g off (NN.aa z).toList)(hk:K (a.put o.dst (.agg (NN.aa z)))):o.quiet Tryz.prog a C K:=
 ⟨_,fun w' hw'=>by
  unfold Oper.quietAt
  have this:(execOp a.eval o).run Tryz.prog w'=.ok (.value (.agg (NN.aa z))) w':=by
   unfold execOp;simp only[ho,hx,aB,run_loadAt_mid w' g off 26 (NN.aa z).toList _ (hC w' hw') Tryz.underlying26 rfl (NN.dH.trans (by rw[g_,NN.jE])),aM];rfl
  rw[this];exact⟨rfl,rfl⟩,hk⟩
theorem Hy(p:Value)(x y:Int)(w:World)(KX:bG w 103 #[p,i_ x] (.bool false)):ar 67 #[p,i_ x,i_ y] w (.bool false):=by
 have hB:=aA w.heap.size w;go_enter Tryz.func67,Tryz.ntmps67;go_wp2_with fail
 refine az (KX.out _ hB) fun v1 hb=>?_;replace hB:=ai hB hb;go_wp2_with fail
 go_ret;exact⟨rfl,hB⟩
theorem Q2(p:Value)(x y:Int)(w:World)(KX:bG w 103 #[p,i_ x] (.bool true))(KY:bG w 103 #[p,i_ y] (.bool false)):ar 67 #[p,i_ x,i_ y] w (.bool true):=by
 have hB:=aA w.heap.size w;go_enter Tryz.func67,Tryz.ntmps67;go_wp2_with fail
 refine az (KX.out _ hB) fun v1 hb=>?_;replace hB:=ai hB hb;clear hb;go_wp2_with fail
 refine az (KY.out _ hB) fun v2 hb=>?_;replace hB:=ai hB hb;go_wp2_with fail
 go_ret;exact⟨rfl,hB⟩
def w8(a b k m:Nat):Bool:=decide (0<NN.Nm.cmp a b)||(NN.Nm.cmp a b==0&&decide (k<m))
theorem SK(b g n c k m:Nat)(e d:En)(he:e.ok)(hd:d.ok)(hk:k<n)(hm:m<n)(z:Int)(g1 g2:Bool)(hz:NN.Nm.cmp e.wk d.wk=z)(h1:decide (0<z)=g1)(h2:(z==0)=g2)(hw1:e.wk<NN.Nm.ak)(hw2:d.wk<NN.Nm.ak)(w:World)(hv:w.cell? ⟨b,84,none⟩=some (.slice (bs g) n c))(hr1:w.rangeAt g (k*144) (kn e))(hr2:w.rangeAt g (m*144) (kn d))(KX:bG w 103 #[af b,i_ k] (.bool true))(KY:bG w 103 #[af b,i_ m] (.bool true)):ar 67 #[af b,i_ k,i_ m] w (.bool (g1||(g2&&decide (k<m)))):=by
 have hB:=aA w.heap.size w;have KC:CN 104 #[.agg (NN.aa e.wk),.agg (NN.aa d.wk)] (i_ z):=h_ fun w'=>by rw[<-hz];exact NN.compare _ _ hw1 hw2 w'
 have H1:=h_ (EF he hr1);have H2:=h_ (EF hd hr2);have HV:=h_ hv;clear hz hw1 hw2 hr1 hr2 hv;generalize e.wk=ew at*;generalize d.wk=dw at*;go_enter Tryz.func67,Tryz.ntmps67;go_wp2_with fail
 refine az (KX.out _ hB) fun v1 hb=>?_;replace hB:=ai hB hb;clear hb;go_wp2_with fail
 refine az (KY.out _ hB) fun v2 hb=>?_;replace hB:=ai hB hb;clear hb KX KY;have hv2:=(hB.cell (p:=⟨b,84,none⟩) (block_lt_of_cell HV.out)).trans HV.out;have q84:∀d os,(Sort.grow (redrawn v2 d) os).cell? ⟨b,84,none⟩=some (.slice (bs g) n c):=cell_regrown hv2;have q1:∀w',(∃r:Regrown,w'=Sort.grow (redrawn v2 r.d) r.os)->w'.rangeAt g (k*144+102) (NN.aa ew).toList:=fun w' hw'=>lL H1.out (hB.trans ((rO w' hw').mono hB.size)) (by rw[g_,NN.jE];decide)
 have q2:∀w',(∃r:Regrown,w'=Sort.grow (redrawn v2 r.d) r.os)->w'.rangeAt g (m*144+102) (NN.aa dw).toList:=fun w' hw'=>lL H2.out (hB.trans ((rO w' hw').mono hB.size)) (by rw[g_,NN.jE];decide)
 clear hv2 H1 H2 HV;go_wp2_with fail
 refine wp_region_quiet_below (by kernel_rfl) (by kernel_rfl) ?_
 repeat(first
  | (go_big_quiet_want;(with_reducible first|refine MU _ rfl g (k*144+102) rfl ew q1 ?_|refine MU _ rfl g (m*144+102) rfl dw q2 ?_);(simp only[Act.put,da,aZ,bg]);go_big_quiet_on)
  | go_big_quiet_step ((go_at_call 104;exact Calls.regrown_of (KC.out _))))
 refine wpQuiet_nil ?_;intro v3 hw';have hb:=rO v3 hw';replace hB:=ai hB hb;clear hw' hb q84 q1 q2 KC;by_cases hkm:k<m
 ·cases g1<;>cases g2
  all_goals
   go_wp2_with fail
   go_ret;exact⟨by simp[hkm],hB⟩
 ·cases g1<;>cases g2
  all_goals
   go_wp2_with fail
   go_ret;exact⟨by simp[hkm],hB⟩
def rR(r:Ru)(M:List av)(x y:Int)(g:Bool):Prop:=(¬dB M x/\g=false)\/(dB M x/\¬dB M y/\g=true)\/∃(n m:Nat)(e d:av),x=(n:Int)/\y=(m:Int)/\M[n]?=some e/\M[m]?=some d/\g=w8 (iK r e.hs) (iK r d.hs) n m
theorem rR.ex(r:Ru)(M:List av)(x y:Int):∃g,rR r M x y g:=by
 by_cases hx:dB M x
 ·by_cases hy:dB M y;obtain⟨n,e,rfl,he⟩:=hx.is;obtain⟨m,d,rfl,hd⟩:=hy.is;exact⟨_,.inr (.inr ⟨n,m,e,d,rfl,rfl,he,hd,rfl⟩)⟩;exact⟨true,.inr (.inl ⟨hx,hy,rfl⟩)⟩
 exact⟨false,.inl ⟨hx,rfl⟩⟩
theorem UP{w:World}{F:Nat->Prop}{b:Nat}{r:Ru}{M:List av}(h:k9 w F b r M)(x y:Int)(g:Bool)(hg:rR r M x y g):ar 67 #[af b,i_ x,i_ y] w (.bool g):=by
 have hn:∀k,¬dB M k->bG w 103 #[af b,i_ k] (.bool false):=fun k hk=>h_ fun w' hb=>pV (h.below hb) k false (by
  rw[Bool.and_eq_false_iff];by_cases h0:0<=k;exact .inr (aE fun h1=>hk ⟨h0,h1⟩);exact .inl (aE h0))
 have hp:∀k,dB M k->bG w 103 #[af b,i_ k] (.bool true):=fun k hk=>h_ fun w' hb=>pV (h.below hb) k true (by rw[dv];exact⟨aG hk.1,aG hk.2⟩)
 rcases hg with⟨h1,rfl⟩|⟨h1,h2,rfl⟩|⟨n,m,e,d,rfl,rfl,he,hd,rfl⟩
 exact Hy _ x y w (hn x h1);exact Q2 _ x y w (hp x h1) (hn y h2);have k1:=hp _ (Ar.jn he);have k2:=hp _ (Ar.jn hd);have o1:=nj h he;have o2:=nj h hd;have l1:=(bk.1 he).1;have l2:=(bk.1 hd).1;obtain⟨_,I,p,t,v,mb,L,a1,a2,a3,a4⟩:=h;obtain⟨s1,hs1⟩:=a3.at he;obtain⟨s2,hs2⟩:=a3.at hd;obtain⟨g1,c1,rfl,hg1,hr1⟩:=a1.range hs1;obtain⟨g2,c2,e2,hg2,hr2⟩:=a1.range hs2;cases e2;exact SK b g1 L.length c1 n m (cX r e) (cX r d) o1 o2 (by rw[a3.length];exact l1) (by rw[a3.length];exact l2) _ _ _ rfl rfl rfl (wM r e.hs) (wM r d.hs) w (lM a1.has a1.VQ) (y7 hr1) (y7 hr2) k1 k2
section
variable{w:World}{F:Nat->Prop}{b:Nat}{r:Ru}{M:List av}{ls:List Int}
theorem J5(h:jU w F b r M ls)(x y:Int)(g:Bool)(hg:rR r M x y g):ar 31 #[af b,i_ x,i_ y] w (.bool g):=by obtain⟨Fa,ab,k1,k2⟩:=h.parts;exact Qb _ _ x y g w (h_ k1) (h_ fun w' hb=>UP (k2.below hb) x y g hg)
end
theorem Ri(x y:Int)(w:World):ar 67 #[.pointer none,i_ x,i_ y] w (.bool false):=Hy _ x y w (h_ fun w' _=>B3 x w')
theorem My(x y:Int)(w:World):ar 31 #[.pointer none,i_ x,i_ y] w (.bool false):=Qb _ _ x y false w (h_ (fz.nil w)) (h_ fun w' _=>Ri x y w')
open Tp (nJ)
def Sg(r:Ru)(M:List av)(i:Nat):Nat:=iK r (M.getD i aN).hs
def Hv(r:Ru)(M:List av):Nat->Nat->Bool:=Tp.CO (Sg r M)
theorem ir(r:Ru)(M:List av):nJ (Hv r M):=Tp.zK _
variable{r:Ru}{M:List av}
theorem pJ{i:Nat}{e:av}(he:M[i]?=some e):Sg r M i=iK r e.hs:=by unfold Sg;rw[dC,he];rfl
theorem zi(f:Nat->Nat)(x y:Nat):w8 (f x) (f y) x y=Tp.CO f x y:=by
 unfold w8 Tp.CO NN.Nm.cmp;rcases oa (f x) (f y)with h|h|h
 ·have h1:¬f y<f x:=by omega
  have h2:¬f x=f y:=by omega
  simp[h,h1,h2]
 simp[h]
 ·have h1:¬f x<f y:=by omega
  simp[h,h1]
theorem rR.place{x y:Nat}(hx:x<M.length)(hy:y<M.length):rR r M (x:Int) (y:Int) (Hv r M x y):=by refine .inr (.inr ⟨x,y,M[x],M[y],rfl,rfl,aQ hx,aQ hy,?_⟩);unfold Hv;rw[<-zi,pJ (aQ hx),pJ (aQ hy)]
theorem FQ{n:Nat}:∀{l:List Nat},l.Nodup->(∀x∈l,x<n)->l.length<=n:=by intro l hn hl;have:=List.Nodup.length_le_of_subset hn (fun x hx=>List.mem_range.2 (hl x hx));rwa[List.length_range]at this
end An
namespace Mk
open Ar (av Ru aN Ok Row dV dB)
noncomputable def pb(p:Prop):Bool:=@decide p (Classical.propDecidable p)
variable{p:Prop}
theorem p9:pb p=true↔p:=@decide_eq_true_iff p (Classical.propDecidable p)
theorem DF:pb p=false↔¬p:=@lk p (Classical.propDecidable p)
noncomputable def ik(M:List av)(S:St)(z:Int):Bool:=pb (∃k:Nat,dV M (k:Int) z/\fX S k=true)
noncomputable def jS(M:List av)(S:St)(z:Int):Bool:=pb (∃k:Nat,(k:Int)≠z/\dV M (k:Int) z/\fX S k=true)
noncomputable def aP(M:List av)(S:St)(z:Int):Bool:=pb (dB M z/\∀k:Nat,dV M (k:Int) z->S.said k=1/\S.out k=false)
instance ZF(M:List av)(x:Int):Decidable (dB M x):=inferInstanceAs (Decidable (_/\_))
def sd(M:List av)(S:St)(x:Int):Nat×Bool:=if dB M x then(S.said x.toNat,S.out x.toNat)else(0,false)
def bad(M:List av)(S:St)(x:Int):Bool:=(sd M S x).1==2||(sd M S x).2
def du(M:List av)(S:St)(x:Int):Bool:=(sd M S x).1==1&&!(sd M S x).2
section
variable{r:Ru}{M:List av}{S:St}{z:Int}{L xs:List Int}{i:Nat}
theorem Dl(h:dB M z):sd M S z=(S.said z.toNat,S.out z.toNat):=aj h
theorem uS(h:¬dB M z):sd M S z=(0,false):=ah h
theorem LQ(h:dB M z):bad M S z=fX S z.toNat:=by unfold bad fX;rw[Dl h];exact Bool.or_comm _ _
theorem rn:dB M (i:Int)↔i<M.length:=by unfold dB;omega
theorem TT:aP M S (i:Int)=true↔Valid M S i:=by unfold aP Valid;rw[p9,rn]
theorem gY(hM:Ok r M)(h:Row M z L){x:Int}(hx:x∈L):dB M x:=by have:=(h.up hM).2 x hx;exact⟨this.1,this.2.2⟩
theorem vp(h:Row M z L){x:Int}:dV M x z↔x∈L:=by constructor;rintro⟨L',h',hx⟩;rw[h.V' h'];exact hx;intro hx;exact⟨L,h,hx⟩
theorem CY{x:Int}(h:dV M x z):dB M z:=by
 obtain⟨L,hL,hx⟩:=h;rcases hL.inv with⟨_,rfl⟩|⟨j,d,L',rfl,h2,_⟩
 simp at hx;exact rn.2 (bk.1 h2).1
theorem Lf(h:¬dB M z):ik M S z=false:=by unfold ik;rw[DF];rintro⟨k,h1,_⟩;exact h (CY h1)
theorem GD(h:¬dB M z):aP M S z=false:=by unfold aP;rw[DF];exact fun hh=>h hh.1
theorem Ly(hM:Ok r M)(h:Row M z L):ik M S z=L.any (fun x=>fX S x.toNat):=by rw[gJ];unfold ik;rw[p9,kM];constructor;rintro⟨k,h1,h2⟩;exact⟨(k:Int),(vp h).1 h1,by rw[bU];exact h2⟩;rintro⟨x,h1,h2⟩;have:=(gY hM h h1).1;exact⟨x.toNat,(vp h).2 (by rw[Int.toNat_of_nonneg this];exact h1),h2⟩
theorem Ib(hM:Ok r M)(hz:dB M z)(h:Row M z L):aP M S z=L.all (fun x=>S.said x.toNat==1&&!S.out x.toNat):=by rw[gJ];unfold aP;rw[p9,fO];constructor;rintro⟨_,h1⟩ x hx;have:=(gY hM h hx).1;have:=h1 x.toNat ((vp h).2 (by rw[Int.toNat_of_nonneg this];exact hx));rw[this.1,this.2];rfl;intro h1;refine⟨hz,fun k hk=>?_⟩;have:=h1 _ ((vp h).1 hk);rw[bU,dv]at this;exact⟨by simpa using this.1,by simpa using this.2⟩
def Wy(M:List av)(z:Int)(xs:List Int):Prop:=(∃L,Row M z L/\xs=L.reverse)\/(¬dB M z/\xs=[])
theorem q_(hM:Ok r M)(h:Row M z L):L.length<=M.length:=by
 have h1:=(h.up hM).1
 have h2:(L.map Int.toNat).Nodup:=by
  refine List.pairwise_map.2 (List.Pairwise.imp_of_mem (fun ha hb hab=>?_) h1);have:=(gY hM h ha).1;have:=(gY hM h hb).1;omega
 have:=An.FQ (n:=M.length) h2 fun x hx=>by
  obtain⟨y,hy,rfl⟩:=jQ.1 hx;have:=gY hM h hy;unfold dB at this;omega
 rwa[dS]at this
theorem Wy.ex(hM:Ok r M)(z:Int):∃xs,Wy M z xs/\xs.length<=M.length:=by by_cases h:dB M z;obtain⟨n,rfl⟩:=eG h.1;obtain⟨L,h1,_⟩:=hM.row (aQ (rn.1 h));exact⟨_,.inl ⟨L,h1,rfl⟩,by rw[List.length_reverse];exact q_ hM h1⟩;exact⟨[],.inr ⟨h,rfl⟩,bB _⟩
theorem Wy.no(h:Wy M z xs)(hz:¬dB M z):xs=[]:=by
 rcases h with⟨L,h1,rfl⟩|⟨_,h⟩
 ·rcases h1.inv with⟨_,rfl⟩|⟨j,d,L',rfl,h2,_⟩
  rfl;exact absurd (rn.2 (bk.1 h2).1) hz
 exact h
theorem Wy.yes(h:Wy M (i:Int) xs){e:av}(he:M[i]?=some e):∃ys,xs=(i:Int)::ys/\Wy M e.up ys:=by
 have hi:=(bk.1 he).1;rcases h with⟨L,h1,rfl⟩|⟨h1,_⟩
 ·rcases h1.inv with⟨h2,_⟩|⟨j,d,L',h2,h3,h4,rfl⟩
  omega
  ·obtain rfl:i=j:=by omega
   rw[he]at h3;cases h3;exact⟨L'.reverse,by simp,.inl ⟨L',h4,rfl⟩⟩
 exact absurd (rn.2 hi) h1
theorem Wy.fails(hM:Ok r M)(h:Wy M z xs):ik M S z=xs.any (bad M S):=by
 rcases h with⟨L,h1,rfl⟩|⟨h1,rfl⟩
 rw[Ly hM h1,List.any_reverse];rw[gJ,kM,kM];exact exists_congr fun x=>and_congr_right fun hx=>by rw[LQ (gY hM h1 hx)]
 rw[Lf h1];rfl
theorem Wy.ZG(hM:Ok r M)(h:Wy M z xs)(hz:dB M z):aP M S z=xs.all (du M S):=by
 rcases h with⟨L,h1,rfl⟩|⟨h1,rfl⟩
 rw[Ib hM hz h1,List.all_reverse];rw[gJ,fO,fO];exact forall_congr' fun x=>imp_congr_right fun hx=>by unfold du;rw[Dl (gY hM h1 hx)]
 exact absurd hz h1
end
