import Derived.Test.YtkbjaadjnbgfbaaGreatDoorBBunQ38
set_option maxRecDepth 100000
set_option maxHeartbeats 8000000
namespace Go.Proofs.YtkbjaadjnbgfbaaGreatDoor
namespace An
open Go.RowKit Mem Sc NN.Si
open Ar (aq Ru aB)
theorem rC(w:World)(g o:Nat):(Instr.fieldAt 143 (.pointer (some ⟨g,o,none⟩)) 0).run Tryz.prog w=.ok (.pointer (some ⟨g,o,none⟩)) w:=by kernel_rfl
theorem vX(w:World)(g o:Nat):(Instr.fieldAt 60 (.pointer (some ⟨g,o,none⟩)) 4).run Tryz.prog w=.ok (.pointer (some ⟨g,o+102,none⟩)) w:=by kernel_rfl
theorem om(w:World)(g:Nat):(Instr.fieldAt 30 (af g) 4).run Tryz.prog w=.ok (.pointer (some ⟨g,66,none⟩)) w:=by kernel_rfl
variable{w:World}{g n B z b k:Nat}
theorem FT{ρ:Operand->Value}{o:Oper}{x:Operand}{off:Nat}(ho:o.op=.load 26 x)(hx:ρ x=.pointer (some ⟨g,off,none⟩))(hg:w.rangeAt g off (NN.aa n).toList):(execOp ρ o).run Tryz.prog w=.ok (.value (.agg (NN.aa n))) w:=by have:=ic (P:=Tryz.prog) (ρ:=ρ) (o:=o) (w:=w) 26 ho hx (cs:=(NN.aa n).toList) Tryz.underlying26 rfl (NN.cy.trans (by simp[NN.fU])) hg;rwa[Array.toArray_toList]at this
def cr(B:Nat)(w w':World):Prop:=∀b cs,B<=b->NN.Has w b cs 26->(cs.size≠4->NN.Has w' b cs 26)/\(cs.size=4->∃cs',NN.Has w' b cs' 26/\cs'.size=4)
theorem cr.refl(B:Nat)(w:World):cr B w w:=fun _ cs _ h=>⟨fun _=>h,fun h4=>⟨cs,h,h4⟩⟩
theorem cr.below{w':World}(hb:Bl w w'):cr B w w':=fun _ cs _ h=>⟨fun _=>h.on hb,fun h4=>⟨cs,h.on hb,h4⟩⟩
theorem cr.row{cs:Array Value}(hg:NN.Has w g cs 26)(hs:cs.size=4):cr B w (w.setRow g (NN.aa z)):=fun b cs' _ h=>by
 by_cases e:b=g
 ·subst e
  have e2:cs'=cs:=by
   have h1:=NN.Has.out h;have h2:=NN.Has.out hg;rw[h1]at h2;injection h2 with h2
   injection h2
  subst e2;exact⟨fun h4=>absurd hs h4,fun _=>⟨_,hg.row _,rfl⟩⟩
 exact⟨fun _=>h.R1 _ _ e,fun h4=>⟨cs',h.R1 _ _ e,h4⟩⟩
def PB(B b bH g j n c wk ob z:Nat)(bits:Int):Nat->Value->World->Prop
 | 0,u,_=>u=af b
 | 1,u,_=>u=af b
 | 2,u,_=>u=.pointer (some ⟨b,84,none⟩)
 | 3,u,_=>u=.slice (aT g) n c
 | 4,u,_=>u=i_ j
 | 5,u,_=>u=.pointer (some ⟨g,j*144,none⟩)
 | 6,u,_=>u=.pointer (some ⟨g,j*144,none⟩)
 | 7,u,_=>u=.pointer (some ⟨g,j*144+102,none⟩)
 | 8,u,_=>u=.agg (NN.aa wk)
 | 9,u,_=>u=.pointer (some ⟨bH,66,none⟩)
 | 10,u,_=>u=i_ bits
 | 11,u,_=>u=.agg (NN.aa ob)
 | 12,u,w=>∃b',B<=b'/\u=.slice (aT b') 2 2/\NN.Has w b' (NN.bp [wk,ob]) 26
 | 13,u,_=>u=.agg (NN.aa z)
 | 14,u,w=>∃b' cs,B<=b'/\u=af b'/\NN.Has w b' cs 26/\cs.size=4
 | _,_,_=>b=b
theorem Po(x y:Nat):(NN.bp [x,y]).size=8:=by simp[NN.bp,NN.fU]
theorem Ig{bH j c wk ob:Nat}{bits:Int}:∀(i:Nat)(u:Value)(w w':World),cr B w w'->PB B b bH g j n c wk ob z bits i u w->PB B b bH g j n c wk ob z bits i u w'
 | 0,_,_,_,_,h|1,_,_,_,_,h|2,_,_,_,_,h|3,_,_,_,_,h|4,_,_,_,_,h|5,_,_,_,_,h|6,_,_,_,_,h|7,_,_,_,_,h|8,_,_,_,_,h|9,_,_,_,_,h|10,_,_,_,_,h|11,_,_,_,_,h|13,_,_,_,_,h=>h
 | 12,_,_,_,hs,⟨b',h1,h2,h3⟩=>⟨b',h1,h2,(hs b' _ h1 h3).1 (by rw[Po];decide)⟩
 | 14,_,_,_,hs,⟨b',cs,h1,h2,h3,h4⟩=>by
  obtain⟨cs',h5,h6⟩:=(hs b' cs h1 h3).2 h4;exact⟨b',cs',h1,h2,h5,h6⟩
 | _+15,_,_,_,_,_=>rfl
def Nl(B b n:Nat)(p:NN.Pr)(sp:Sp)(h:Hd)(e:En)(q:Ps):Nat->Value->World->Prop
 | 0,u,_=>u=af b
 | 1,u,_=>u=.agg (bT e)
 | 2,u,_=>u=af b
 | 3,u,_=>u=af b
 | 4,u,_=>u=af b
 | 5,u,_=>u=.agg (NN.aE p)
 | 6,u,_=>u=.agg (br sp)
 | 7,u,_=>u=.agg (aD h)
 | 8,u,w=>∃s:Sp,u=.agg (br s)/\s.ok/\fR (fun i=>B<=i) (fun w=>eE w 0 s q) w
 | 9,u,_=>u=i_ n
 | 10,u,_=>u=i_ n
 | 11,u,_=>u=i_ 0
 | 12,u,_=>u=i_ 0
 | _,_,_=>b=b
variable{e:En}
theorem Ly{p:NN.Pr}{sp:Sp}{h:Hd}{q:Ps}{G:Nat->Prop}(hG:∀i,G i->i<B):∀(i:Nat)(u:Value)(w w':World),Kp G w w'->Nl B b n p sp h e q i u w->Nl B b n p sp h e q i u w'
 | 0,_,_,_,_,h|1,_,_,_,_,h|2,_,_,_,_,h|3,_,_,_,_,h|4,_,_,_,_,h|5,_,_,_,_,h|6,_,_,_,_,h|7,_,_,_,_,h|9,_,_,_,_,h|10,_,_,_,_,h|11,_,_,_,_,h|12,_,_,_,_,h=>h
 | 8,_,_,_,hk,⟨s,h1,h2,h3⟩=>⟨s,h1,h2,h3.on hk fun i hi hg=>absurd (hG i hg) (by omega)⟩
 | _+13,_,_,_,_,_=>rfl
def pJ(B:Nat)(I:Nat->Prop)(b:Nat)(p:NN.Pr)(t:Tl)(gs:List Gt)(cs:List Ck)(room:Nat)(v:Value)(mb:Nat)(L:List Bk)(e:En)(q:Ps)(w:World):Prop:=∃I' v' s,fM w I' b p t gs cs room v' mb (L++[⟨e,s,q⟩])/\∀i,jJ I' b v' mb i->jJ I b v mb i\/B<=i
theorem Fv(h:bB w k e):w.rangeAt k 0 (gB e):=by have:=gd (A:=[]) (cs:=gB e) (C:=[]) (o:=0) (w:=w) (b:=k) (t:=60) (by rw[List.append_nil];exact h) rfl;exact this
theorem Eu{s:Sp}(h:aI w k s):w.rangeAt k 0 (gJ s):=by have:=gd (A:=[]) (cs:=gJ s) (C:=[]) (o:=0) (w:=w) (b:=k) (t:=141) (by rw[List.append_nil];exact h) rfl;exact this
theorem EV(b:Nat)(h:Hd)(ho:h.ok)(now:Int)(w:World)(KG:aQ w 118 #[.agg (aD h)] (.bool true))(id:List UInt8)(i32:id.length=32)(KI:aQ w 119 #[.agg (aD h)] (.agg (ae id)))(KF:aQ w 120 #[.pointer (some ⟨b,0,none⟩),.agg (ae id)] (.int .i64 (-1))){I:Nat->Prop}{p:NN.Pr}{t:Tl}{gs:List Gt}{cs:List Ck}{room g n c mb:Nat}{L:List Bk}(HA:Hid (∀w',Below w.heap.size w w'->fM w' I b p t gs cs room (.slice (some ⟨g,0,none⟩) n c) mb L))(x:Bk)(xe:x.e.ok)(xs:x.s.ok)(j:Nat)(hj:j<n)(HR:Hid (∀w',Below w.heap.size w w'->w'.rangeAt g (j*144) (jc x.e x.s)))(KP:aQ w 120 #[.pointer (some ⟨b,0,none⟩),.agg (ae h.prev)] (.int .i64 (j:Int)))(KC:aQ w 121 #[.agg (NN.aE p),.agg (br x.s),.agg (aD h),.int .i64 now] (.int .i64 0))(hroom:room<=n):ak 84 #[.pointer (some ⟨b,0,none⟩),.agg (aD h),.int .i64 now] w (.tuple #[.int .i64 (-1),.int .i64 0,.int .i64 6]):=by
 have za:=fX ho;go_enter Tryz.func84,Tryz.ntmps84;go_upto_region 1 with fail
 generalize hw0:World.alloc _ _=v0;have hB:Below w.heap.size w v0:=dd hw0;have hH:aH v0 w.heap.size h:=by rw[<-hw0];exact Has.new _ _
 clear hw0;obtain⟨bH,R'⟩:∃x,x=w.heap.size:=⟨_,rfl⟩;rw[<-R']at hH|-;have UR:Hid (bH=w.heap.size):=h_ R';clear R';go_wp2_with (first|fail|(with_reducible refine cP rfl _ rfl _ rfl hH za ?_))
 refine au (KG.out _ hB) fun v1 hb=>?_;replace hH:=hH.on hb;replace hB:=ah hB hb;clear hb;go_wp2_with (first|fail|(with_reducible refine cP rfl _ rfl _ rfl hH za ?_))
 refine au (KI.out _ hB) fun v2 hb=>?_;replace hH:=hH.on hb;replace hB:=ah hB hb;clear hb;have s1:(ae id).size=32:=by rw[jH];exact i32
 have o1:=j6 id;have HW2:Hid (w.heap.size<=v2.heap.size):=h_ hB.size;go_upto_region 6 with(with_reducible refine jD rfl _ _ rfl _ (ae id) (ae id) rfl rfl rfl s1 o1 h0 (c_ v2 _) rfl ?_)
 generalize hw4:World.setRow _ _ _=v3;have hb2:Below v2.heap.size v2 v3:=cU hw4;have hI:Has v3 v2.heap.size (ae id) 28:=by rw[<-hw4];exact Has.row (c_ v2 _) _
 replace hH:=hH.on hb2;replace hB:=ah hB hb2;clear hw4 hb2 o1;obtain⟨bI,TF⟩:∃b,b=v2.heap.size:=⟨_,rfl⟩;rw[<-TF]at hI HW2|-;clear TF;go_wp2_with (first|fail|(with_reducible refine ku rfl _ rfl _ rfl _ hI s1 ?_))
 refine au (KF.out _ hB) fun v4 hb=>?_;replace hH:=hH.on hb;replace hI:=cg hb hI (Has.lt hI);replace hB:=ah hB hb;clear hb;have rp:=hH.prev;have s2:=il ho.1;go_wp2_with (first|fail|(with_reducible refine gu rfl _ rfl bH 1 rfl h.prev rp s2 ?_))
 refine au (KP.out _ hB) fun v5 hb=>?_;replace hH:=hH.on hb;replace hI:=cg hb hI (Has.lt hI);replace hB:=ah hB hb;clear hb;clear rp;have Tv:=HA.out _ hB;have Ud:=iB Tv.has Tv.Su;have rs:=AV xe (HR.out _ hB);have z3:=mE xs;have z4:=iW xs;have z0:=iW ji;have hp:=Tv.Su;clear Tv;have WB:Hid (w.heap.size<=v5.heap.size):=h_ hB.size
 go_upto_region 13 with(first
  | (with_reducible refine BH rfl _ rfl g (j*144+106) rfl x.s rs z3 ?_)
  | (with_reducible refine sB rfl _ _ rfl _ _ x.s rfl rfl rfl z4 (np v5) z0 ?_))
 generalize hw4:World.setRow _ _ _=v6;have hb2:Below v5.heap.size v5 v6:=cU hw4;have hS:aI v6 v5.heap.size x.s:=by rw[<-hw4];exact Has.row (np v5) _
 replace hH:=hH.on hb2;replace hI:=cg hb2 hI (Has.lt hI);replace hB:=ah hB hb2;clear hw4 hb2 Ud rs;obtain⟨bS,hbS⟩:∃b,b=v5.heap.size:=⟨_,rfl⟩;rw[<-hbS]at hS WB|-;clear hbS;simp only[Act.put];have hz:=jz hp;have ra:=gv (oI (HA.out _ hB).has) (by rw[hz];omega);have qS:=hS.cls;have qH:=gv hH.range (j3 h);have sh:=er ho;have VC:∀d os,Below w.heap.size w (Sort.grow (redrawn v6 d) os):=fun d os=>hB.trans ((below_regrown v6 d os).mono hB.size)
 refine wp_region_quiet_below (by kernel_rfl) (by kernel_rfl) ?_
 repeat(first
  | (go_big_quiet_want;(with_reducible first|refine Df 32 _ rfl b 0 rfl (NN.dR p) _ Tryz.underlying32 rfl (NN.fG.trans (by rw[hz])) ra ?_|refine CU _ rfl bS rfl z4 qS ?_|refine kt _ rfl bH 0 rfl h sh qH ?_);(simp only[Act.put,List.setIfInBounds_toArray,List.set_cons_zero,List.set_cons_succ]);go_big_quiet_on)
  | go_big_quiet_step ((go_at_call 121;exact Calls.regrown_of (KC.out _ (VC _ _)))))
 refine wpQuiet_nil ?_;intro v7 hw';have hb:=mT v7 hw';replace hH:=hH.on hb;replace hI:=cg hb hI (Has.lt hI);replace hS:=hS.on hb;replace hB:=ah hB hb;clear hw' hb ra qS qH sh VC;go_upto_region 16 with fail
 have Wb:=HA.out _ hB;have XL:∀d os,(Sort.grow (redrawn v7 d) os).cell? ⟨b,84,none⟩=some (.slice (some ⟨g,0,none⟩) n c):=cell_regrown (iB Wb.has hp);have XM:∀d os,(Sort.grow (redrawn v7 d) os).cell? ⟨b,83,none⟩=some (.int .i64 (room:Int)):=cell_regrown (IJ Wb.has hp);clear Wb;refine wp_region_quiet_below (by kernel_rfl) (by kernel_rfl) ?_
 repeat(first
  | go_big_quiet_step (fail))
 refine wpQuiet_nil ?_;intro v8 hw';have hb:=mT v8 hw';replace hH:=hH.on hb;replace hI:=cg hb hI (Has.lt hI);replace hS:=hS.on hb;replace hB:=ah hB hb;clear hw' hb XL XM;go_wp2_with fail
 go_ret3
 exact⟨rfl,hB⟩
theorem wi(b:Nat)(h:Hd)(ho:h.ok)(now:Int)(w:World)(KG:aQ w 118 #[.agg (aD h)] (.bool true))(id:List UInt8)(i32:id.length=32)(KI:aQ w 119 #[.agg (aD h)] (.agg (ae id)))(KF:aQ w 120 #[.pointer (some ⟨b,0,none⟩),.agg (ae id)] (.int .i64 (-1))){I:Nat->Prop}{p:NN.Pr}{t:Tl}{gs:List Gt}{cs:List Ck}{room g n c mb:Nat}{L:List Bk}(HA:Hid (∀w',Below w.heap.size w w'->fM w' I b p t gs cs room (.slice (some ⟨g,0,none⟩) n c) mb L))(x:Bk)(xe:x.e.ok)(xs:x.s.ok)(j:Nat)(hj:j<n)(HR:Hid (∀w',Below w.heap.size w w'->w'.rangeAt g (j*144) (jc x.e x.s)))(KP:aQ w 120 #[.pointer (some ⟨b,0,none⟩),.agg (ae h.prev)] (.int .i64 (j:Int)))(KC:aQ w 121 #[.agg (NN.aE p),.agg (br x.s),.agg (aD h),.int .i64 now] (.int .i64 0))(hroom:¬room<=n)(ob z:Nat)(KO:zF 123 #[.int .i64 h.bits] (.agg (NN.aa ob)))(KS:Hid (∀b' w',NN.Has w' b' (NN.bp [x.e.wk,ob]) 26->Calls Tryz.prog 122 #[.slice (some ⟨b',0,none⟩) 2 2] w' fun e w''=>e=.returned (.agg (NN.aa z))/\Below w'.heap.size w' w''))(q9:Ps)(q32:q9.prev.length=32)(KB:Hid (∀w',Below w.heap.size w w'->Calls Tryz.prog 125 #[.agg (NN.aE p),.agg (br x.s),.agg (aD h)] w' fun r w''=>∃s,r=.returned (.agg (br s))/\eE w'' w'.heap.size s q9/\Below w'.heap.size w' w''))(ht:Int)(e4:x.s.x.h=ht)(hn:n=L.length)(TW:L.length<=900)(hf:(L.map (·.e.id)).findIdx? (· == id)=none):Calls Tryz.prog 84 #[.pointer (some ⟨b,0,none⟩),.agg (aD h),.int .i64 now] w fun r w'=>∃I' v' s,r=.returned (.tuple #[.int .i64 (n:Int),.int .i64 0,.int .i64 0])/\fM w' I' b p t gs cs room v' mb (L++[⟨⟨h,id,(j:Int),ht,z⟩,s,q9⟩])/\Kp (fun i=>i=b\/i=mb\/(Value.slice (some ⟨g,0,none⟩) n c).ownBlock=some i) w w'/\(∀i,jJ I' b v' mb i->jJ I b (.slice (some ⟨g,0,none⟩) n c) mb i\/w.heap.size<=i):=by
 have HE:=h_ (show n=L.length/\L.length<=900/\(L.map (·.e.id)).findIdx? (· == id)=none from⟨hn,TW,hf⟩);have E4:=h_ e4;clear e4 hn TW hf;have za:=fX ho;go_enter Tryz.func84,Tryz.ntmps84;go_upto_region 1 with fail
 generalize hw0:World.alloc _ _=v0;have hB:Below w.heap.size w v0:=dd hw0;have hH:aH v0 w.heap.size h:=by rw[<-hw0];exact Has.new _ _
 clear hw0;obtain⟨bH,R'⟩:∃x,x=w.heap.size:=⟨_,rfl⟩;rw[<-R']at hH|-;have UR:Hid (bH=w.heap.size):=h_ R';clear R';go_wp2_with (first|fail|(with_reducible refine cP rfl _ rfl _ rfl hH za ?_))
 refine au (KG.out _ hB) fun v1 hb=>?_;replace hH:=hH.on hb;replace hB:=ah hB hb;clear hb;go_wp2_with (first|fail|(with_reducible refine cP rfl _ rfl _ rfl hH za ?_))
 refine au (KI.out _ hB) fun v2 hb=>?_;replace hH:=hH.on hb;replace hB:=ah hB hb;clear hb;have s1:(ae id).size=32:=by rw[jH];exact i32
 have o1:=j6 id;have HW2:Hid (w.heap.size<=v2.heap.size):=h_ hB.size;go_upto_region 6 with(with_reducible refine jD rfl _ _ rfl _ (ae id) (ae id) rfl rfl rfl s1 o1 h0 (c_ v2 _) rfl ?_)
 generalize hw4:World.setRow _ _ _=v3;have hb2:Below v2.heap.size v2 v3:=cU hw4;have hI:Has v3 v2.heap.size (ae id) 28:=by rw[<-hw4];exact Has.row (c_ v2 _) _
 replace hH:=hH.on hb2;replace hB:=ah hB hb2;clear hw4 hb2 o1;obtain⟨bI,TF⟩:∃b,b=v2.heap.size:=⟨_,rfl⟩;rw[<-TF]at hI HW2|-;clear TF;go_wp2_with (first|fail|(with_reducible refine ku rfl _ rfl _ rfl _ hI s1 ?_))
 refine au (KF.out _ hB) fun v4 hb=>?_;replace hH:=hH.on hb;replace hI:=cg hb hI (Has.lt hI);replace hB:=ah hB hb;clear hb;have rp:=hH.prev;have s2:=il ho.1;go_wp2_with (first|fail|(with_reducible refine gu rfl _ rfl bH 1 rfl h.prev rp s2 ?_))
 refine au (KP.out _ hB) fun v5 hb=>?_;replace hH:=hH.on hb;replace hI:=cg hb hI (Has.lt hI);replace hB:=ah hB hb;clear hb;clear rp;have Tv:=HA.out _ hB;have Ud:=iB Tv.has Tv.Su;have rs:=AV xe (HR.out _ hB);have z3:=mE xs;have z4:=iW xs;have z0:=iW ji;have hp:=Tv.Su;clear Tv;have WB:Hid (w.heap.size<=v5.heap.size):=h_ hB.size
 go_upto_region 13 with(first
  | (with_reducible refine BH rfl _ rfl g (j*144+106) rfl x.s rs z3 ?_)
  | (with_reducible refine sB rfl _ _ rfl _ _ x.s rfl rfl rfl z4 (np v5) z0 ?_))
 generalize hw4:World.setRow _ _ _=v6;have hb2:Below v5.heap.size v5 v6:=cU hw4;have hS:aI v6 v5.heap.size x.s:=by rw[<-hw4];exact Has.row (np v5) _
 replace hH:=hH.on hb2;replace hI:=cg hb2 hI (Has.lt hI);replace hB:=ah hB hb2;clear hw4 hb2 Ud rs;obtain⟨bS,hbS⟩:∃b,b=v5.heap.size:=⟨_,rfl⟩;rw[<-hbS]at hS WB|-;clear hbS;simp only[Act.put];have hz:=jz hp;have ra:=gv (oI (HA.out _ hB).has) (by rw[hz];omega);have qS:=hS.cls;have qH:=gv hH.range (j3 h);have sh:=er ho;have VC:∀d os,Below w.heap.size w (Sort.grow (redrawn v6 d) os):=fun d os=>hB.trans ((below_regrown v6 d os).mono hB.size)
 refine wp_region_quiet_below (by kernel_rfl) (by kernel_rfl) ?_
 repeat(first
  | (go_big_quiet_want;(with_reducible first|refine Df 32 _ rfl b 0 rfl (NN.dR p) _ Tryz.underlying32 rfl (NN.fG.trans (by rw[hz])) ra ?_|refine CU _ rfl bS rfl z4 qS ?_|refine kt _ rfl bH 0 rfl h sh qH ?_);(simp only[Act.put,List.setIfInBounds_toArray,List.set_cons_zero,List.set_cons_succ]);go_big_quiet_on)
  | go_big_quiet_step ((go_at_call 121;exact Calls.regrown_of (KC.out _ (VC _ _)))))
 refine wpQuiet_nil ?_;intro v7 hw';have hb:=mT v7 hw';replace hH:=hH.on hb;replace hI:=cg hb hI (Has.lt hI);replace hS:=hS.on hb;replace hB:=ah hB hb;clear hw' hb ra qS qH sh VC;go_upto_region 16 with fail
 have Wb:=HA.out _ hB;have XL:∀d os,(Sort.grow (redrawn v7 d) os).cell? ⟨b,84,none⟩=some (.slice (some ⟨g,0,none⟩) n c):=cell_regrown (iB Wb.has hp);have XM:∀d os,(Sort.grow (redrawn v7 d) os).cell? ⟨b,83,none⟩=some (.int .i64 (room:Int)):=cell_regrown (IJ Wb.has hp);clear Wb;refine wp_region_quiet_below (by kernel_rfl) (by kernel_rfl) ?_
 repeat(first
  | go_big_quiet_step (fail))
 refine wpQuiet_nil ?_;intro v8 hw';have hb:=mT v8 hw';replace hH:=hH.on hb;replace hI:=cg hb hI (Has.lt hI);replace hS:=hS.on hb;replace hB:=ah hB hb;clear hw' hb XL XM;go_upto_region 18 with fail
 have ZV:=h_ hB;refine ix (by kernel_rfl) (fun w'=>Below v8.heap.size v8 w') (fun i v' w'=>PB v8.heap.size b bH g j n c x.e.wk ob z h.bits i v' w') (fun l a w'=>ir 15 14 (fun w'=>v8.heap.size<=w'.heap.size) (fun u w'=>∃b',u=.pointer (some ⟨b',0,none⟩)/\v8.heap.size<=b'/\NN.Has w' b' (NN.aa z) 26) l a w') (cr v8.heap.size) (fun _ _=>cr.refl _ _) (fun i v w w' _ hs h=>Ig i v w w' hs h) (by kernel_rfl) bf.drew ?_ ?_ ?_;exact fun l hl=>ir.zero hl (Below.refl v8.heap.size v8).drew.size
 ·intro i o lz a wx ho' hnl dq Z;have hC:=Z.c;have hI:=Z.i;have hi:i<16:=(Array.getElem?_eq_some_iff.1 ho').1;have Ub:aH wx bH h:=cg hC hH hH.lt;have XN:=Ub.bits ho;have hBx:=ah ZV.out hC;have Ud:=iB (HA.out _ hBx).has hp;have rw:=AA xe (tE (HR.out _ hBx));obtain rfl|rfl|rfl|rfl|rfl|rfl|rfl|rfl|rfl|rfl|rfl|rfl|rfl|rfl|rfl|rfl:i=0\/i=1\/i=2\/i=3\/i=4\/i=5\/i=6\/i=7\/i=8\/i=9\/i=10\/i=11\/i=12\/i=13\/i=14\/i=15:=by omega
  all_goals obtain rfl:=Option.some.inj ho'
  exact dA (S:=cr v8.heap.size) (fun _ _=>cr.refl _ _) 0 Z (an rfl) (NN.dy rfl) (Z.old' 0) (hI.keep (av Z 0));exact dA (S:=cr v8.heap.size) (fun _ _=>cr.refl _ _) 1 Z (an rfl) (cG rfl (ar Z dq 0 66)) rfl (hI.keep (av Z 1));exact dA (S:=cr v8.heap.size) (fun _ _=>cr.refl _ _) 2 Z (an rfl) (dm rfl (ar Z dq 1 67) (ln wx b)) rfl (hI.keep (av Z 2));exact dA (S:=cr v8.heap.size) (fun _ _=>cr.refl _ _) 3 Z (an rfl) (K6 rfl (ar Z dq 2 68) Ud) rfl (hI.keep (av Z 3));exact dA (S:=cr v8.heap.size) (fun _ _=>cr.refl _ _) 4 Z (an rfl) (NN.dy rfl) (Z.old' 11) (hI.keep (av Z 4));exact dA (S:=cr v8.heap.size) (fun _ _=>cr.refl _ _) 5 Z (an rfl) (gw rfl (ar Z dq 3 69) (ar Z dq 4 70) (Cv wx g j n c hj)) rfl (hI.keep (av Z 5));exact dA (S:=cr v8.heap.size) (fun _ _=>cr.refl _ _) 6 Z (an rfl) (xG rfl (ar Z dq 5 71) (rC wx g (j*144))) rfl (hI.keep (av Z 6));exact dA (S:=cr v8.heap.size) (fun _ _=>cr.refl _ _) 7 Z (an rfl) (xG rfl (ar Z dq 6 72) (vX wx g (j*144))) rfl (hI.keep (av Z 7));exact dA (S:=cr v8.heap.size) (fun _ _=>cr.refl _ _) 8 Z (an rfl) (FT rfl (ar Z dq 7 73) rw) rfl (hI.keep (av Z 8));exact dA (S:=cr v8.heap.size) (fun _ _=>cr.refl _ _) 9 Z (an rfl) (dm rfl (Z.old' 4) (om wx bH)) rfl (hI.keep (av Z 9));exact dA (S:=cr v8.heap.size) (fun _ _=>cr.refl _ _) 10 Z (an rfl) (NN.lC rfl (ar Z dq 9 75) XN) rfl (hI.keep (av Z 10))
  ·have hsz:=av Z 11;have R7:=dz Z hnl 15;have hpre:=hI.pre R7 hsz (by decide);exact mf (S:=cr v8.heap.size) 11 Z (an rfl) (f:=123) (args:=#[a.eval (.tmp 76)]) (by kernel_rfl) (by rw[show a.eval (.tmp 76)=_ from(ar Z dq 10 76)];  exact KO.out wx) (fun w' hb=>⟨ah hC hb,cr.below hb,rfl,ir.made R7 (Nat.le_trans hpre hb.size)⟩)
  have hsz:=av Z 12;have R7:=dz Z hnl 15;have hpre:=hI.pre R7 hsz (by decide);have hb:Below wx.heap.size wx (wx.alloc (.cells (NN.bp [x.e.wk,ob]) 26)):=aY;exact Ci (S:=cr v8.heap.size) 12 Z (an rfl) (NN.IK rfl (ar Z dq 8 74) (ar Z dq 11 77)) (ah hC hb) (cr.below hb) ⟨wx.heap.size,hC.size,rfl,NN.Has.new _ _⟩ (ir.made R7 (Nat.le_trans hpre hb.size))
  ·have hsz:=av Z 13;have R7:=dz Z hnl 15;have hpre:=hI.pre R7 hsz (by decide);obtain⟨b',hb1,XK,hb3⟩:=(ar Z dq 12 78);exact mf (S:=cr v8.heap.size) 13 Z (an rfl) (f:=122) (args:=#[a.eval (.tmp 78)]) (by kernel_rfl) (by rw[XK];exact KS.out b' wx hb3) (fun w' hb=>⟨ah hC hb,cr.below hb,rfl,ir.made R7 (Nat.le_trans hpre hb.size)⟩)
  have hsz:=av Z 14;have R7:=dz Z hnl 15;have hpre:=hI.pre R7 hsz (by decide);have hb:Below wx.heap.size wx (wx.alloc (.cells (NN.aa 0) 26)):=aY;exact Ci (S:=cr v8.heap.size) 14 Z (an rfl) (NN.oO rfl) (ah hC hb) (cr.below hb) ⟨wx.heap.size,NN.aa 0,hC.size,rfl,NN.Has.new _ _,rfl⟩ (ir.made R7 (Nat.le_trans hpre hb.size));have hsz:=av Z 15;obtain⟨b',cs',hb1,e14,hb3,hb4⟩:=(ar Z dq 14 14);exact RJ (S:=cr v8.heap.size) 15 Z (an rfl) (NN.jC rfl e14 (ar Z dq 13 79) hb3 hb4) (below_setRow hC hb1 _) (cr.row hb3 hb4) rfl (ir.last _ hsz ⟨b',e14,hb1,hb3.row _⟩)
 intro lz a' v9 hall Z;have hC:=Z.c;obtain⟨bW,e14,hbW,hW⟩:=Z.i.2 (hall 15 (by decide));have e0:a'.eval (.tmp 0)=.pointer (some ⟨b,0,none⟩):=Z.old' 0;have e4:a'.eval (.tmp 4)=.pointer (some ⟨bH,0,none⟩):=Z.old' 4;have e9:a'.eval (.tmp 9)=.pointer (some ⟨bI,0,none⟩):=Z.old' 9;have e11:a'.eval (.tmp 11)=.int .i64 (j:Int):=Z.old' 11;have e12:a'.eval (.tmp 12)=.pointer (some ⟨bS,0,none⟩):=Z.old' 12;obtain⟨u,hu⟩:∃u:Nat->Value,∀t,u t=a'.eval (.tmp t):=⟨_,fun _=>rfl⟩;rw[e_ a' 98 u Z.R4 Z.defers hu];rw[<-hu]at e0 e4 e9 e11 e12 e14;clear hu Z hall;simp only[List.range,List.range.loop,List.map_cons,List.map_nil];rw[e0,e4,e9,e11,e12,e14];clear e0 e4 e9 e11 e12 e14;have ZW:aH v9 bH h:=cg hC hH hH.lt;have hI9:Has v9 bI (ae id) 28:=cg hC hI (Has.lt hI);have WC:aI v9 bS x.s:=cg hC hS hS.lt;have Xk:=ah hB hC;have HLT:Hid (w.heap.size<=bH/\w.heap.size<=bI/\w.heap.size<=bS):=h_ ⟨by rw[UR.out];exact Nat.le_refl _,HW2.out,WB.out⟩;clear hC hH hI hS hB hbW;have c0:=WC.c0 (z:=ht) E4;have he:(⟨h,id,(j:Int),ht,z⟩:En).ok:=⟨ho,i32⟩;have ze:=gE he;have zz:=gE cZ
 go_upto_region 20 with(first
  | (with_reducible refine cP rfl _ rfl _ rfl ZW za ?_)
  | (with_reducible refine ku rfl _ rfl _ rfl _ hI9 s1 ?_)
  | (with_reducible refine NN.aK rfl _ rfl _ rfl _ hW rfl ?_)
  | (with_reducible refine IY rfl _ _ _ _ _ rfl ⟨h,id,(j:Int),ht,z⟩ he rfl rfl rfl rfl rfl ?_)
  | (with_reducible refine gX rfl _ _ rfl _ _ ⟨h,id,(j:Int),ht,z⟩ rfl rfl rfl ze (gL v9) zz ?_))
 generalize hw4:World.setRow _ _ _=v10;have hb2:Below v9.heap.size v9 v10:=cU hw4;have hE:bB v10 v9.heap.size ⟨h,id,(j:Int),ht,z⟩:=by rw[<-hw4];exact Has.row (gL v9) _
 have ZX:=ZW.on hb2;have ZY:=WC.on hb2;have Ue:=ah Xk hb2;have HLE:Hid (w.heap.size<=v9.heap.size):=h_ Xk.size;clear hw4 hb2 ZW hI9 WC hW c0 Xk;obtain⟨bE,TO⟩:∃b,b=v9.heap.size:=⟨_,rfl⟩;rw[<-TO]at hE|-;have ZZ:Hid (w.heap.size<=bE):=h_ (by rw[TO];exact HLE.out);clear TO;simp only[Act.put];have TX:=HA.out _ Ue;have Sn:=HA.out _ bf;generalize hF:(fun i=>i=b\/i=mb\/(Value.slice (some ⟨g,0,none⟩) n c).ownBlock=some i)=F
 have fl:∀i,F i->i<w.heap.size:=fun i hi=>by
  rw[<-hF]at hi;exact Sn.SS (.inr hi)
 have Xy:=h_ hF;have FL:∀k,w.heap.size<=k->¬F k:=fun k hk hf=>by have:=fl k hf;omega
 have hz:=jz hp;clear hF Sn;refine ix (by kernel_rfl) (fun w'=>Kp F v10 w') (fun i v' w'=>Nl v10.heap.size b n p x.s h (En.mk h id (j:Int) ht z) q9 i v' w') (fun l _ w'=>Ph 9 (fun w'=>Below v10.heap.size v10 w'/\fM w' I b p t gs cs room (.slice (some ⟨g,0,none⟩) n c) mb L) (fun w'=>pJ w.heap.size I b p t gs cs room (.slice (some ⟨g,0,none⟩) n c) mb L (En.mk h id (j:Int) ht z) q9 w') l w') (fun w w'=>Kp F w w') (fun w' _=>Kp.refl _ w') (fun i v w w' _ hs h=>Ly (fun i hi=>Nat.lt_of_lt_of_le (fl i hi) Ue.size) i v w w' hs h) (by kernel_rfl) (Kp.of bf.drew) ?_ ?_ ?_;exact fun l hl=>Ph.zero hl ⟨bf.drew,TX.below bf.drew⟩
 ·intro i o lz a wx ho' hnl dq Z;have hC:=Z.c;have hI:=Z.i;have hi:i<13:=(Array.getElem?_eq_some_iff.1 ho').1;have Ub:aH wx bH h:=hC.has ZX (FL _ HLT.out.1);have ZE:aI wx bS x.s:=hC.has ZY (FL _ HLT.out.2.2);have WA:bB wx bE (En.mk h id (j:Int) ht z):=hC.has hE (FL _ ZZ.out);obtain rfl|rfl|rfl|rfl|rfl|rfl|rfl|rfl|rfl|rfl|rfl|rfl|rfl:i=0\/i=1\/i=2\/i=3\/i=4\/i=5\/i=6\/i=7\/i=8\/i=9\/i=10\/i=11\/i=12:=by omega
  all_goals obtain rfl:=Option.some.inj ho'
  exact dA (S:=fun w w'=>Kp F w w') (fun w' _=>Kp.refl _ w') 0 Z (an rfl) (NN.dy rfl) (Z.old' 0) (hI.keep (av Z 0));exact dA (S:=fun w w'=>Kp F w w') (fun w' _=>Kp.refl _ w') 1 Z (an rfl) (Gu rfl (Z.old' 15) (Fv WA) (me he)) rfl (hI.keep (av Z 1));exact dA (S:=fun w w'=>Kp F w w') (fun w' _=>Kp.refl _ w') 2 Z (an rfl) (NN.dy rfl) (Z.old' 0) (hI.keep (av Z 2));exact dA (S:=fun w w'=>Kp F w w') (fun w' _=>Kp.refl _ w') 3 Z (an rfl) (cG rfl (ar Z dq 2 90)) rfl (hI.keep (av Z 3));exact dA (S:=fun w w'=>Kp F w w') (fun w' _=>Kp.refl _ w') 4 Z (an rfl) (dm rfl (ar Z dq 3 91) (xJ wx b)) rfl (hI.keep (av Z 4));have hsz:=av Z 5;have R7:=dz Z hnl 9;have hpre:=hI.pre R7 hsz (by decide);exact dA (S:=fun w w'=>Kp F w w') (fun w' _=>Kp.refl _ w') 5 Z (an rfl) (CW rfl (ar Z dq 4 92) (oI hpre.2.has) hz) rfl (hI.keep hsz);exact dA (S:=fun w w'=>Kp F w w') (fun w' _=>Kp.refl _ w') 6 Z (an rfl) (JS rfl (Z.old' 12) (Eu ZE) z3) rfl (hI.keep (av Z 6));exact dA (S:=fun w w'=>Kp F w w') (fun w' _=>Kp.refl _ w') 7 Z (an rfl) (mC rfl (Z.old' 4) Ub.range (er ho)) rfl (hI.keep (av Z 7))
  ·have hsz:=av Z 8;have R7:=dz Z hnl 9;have hpre:=hI.pre R7 hsz (by decide)
   exact B3 (V:=fun v w'=>∃s,v=.agg (br s)/\eE w' wx.heap.size s q9) (C:=(fun w'=>Kp F v10 w')) (S:=(fun w w'=>Kp F w w')) (R:=fun v' w'=>Nl v10.heap.size b n p x.s h (En.mk h id (j:Int) ht z) q9 8 v' w') (J:=fun _ w'=>Ph 9 (fun w'=>Below v10.heap.size v10 w'/\fM w' I b p t gs cs room (.slice (some ⟨g,0,none⟩) n c) mb L) (fun w'=>pJ w.heap.size I b p t gs cs room (.slice (some ⟨g,0,none⟩) n c) mb L (En.mk h id (j:Int) ht z) q9 w') (lz.setIfInBounds 8 true) w') (an rfl) (f:=125) (args:=#[a.eval (.tmp 93),a.eval (.tmp 94),a.eval (.tmp 95)]) (by kernel_rfl) (by
    rw[show a.eval (.tmp 93)=_ from(ar Z dq 5 93),show a.eval (.tmp 94)=_ from(ar Z dq 6 94),show a.eval (.tmp 95)=_ from(ar Z dq 7 95)];refine(KB.out wx ?_).mono ?_;exact ah Ue hpre.1
    ·rintro r w' ⟨s,rfl,h2,h3⟩;exact⟨_,rfl,⟨s,rfl,h2⟩,h3⟩) (fun v w' hv hb=>⟨hC.trans (Kp.of (F:=F) hb) (fun i hi _=>hi),Kp.of hb,(by
     obtain⟨s,rfl,h2⟩:=hv;exact⟨s,rfl,(by unfold Sp.ok;rw[h2.2.1];exact q32),Mb h2 fun i hi _=>Nat.le_trans hC.size hi⟩),Ph.made R7 ⟨ah hpre.1 hb,hpre.2.below hb⟩⟩)
  ·have hsz:=av Z 9;have hpre:=hI.1 hnl;obtain⟨s,e96,so,hJ⟩:=(ar Z dq 8 96)
   exact zL (S:=fun w w'=>Kp F w w') 9 Z (an rfl) (f:=124) (args:=#[a.eval (.tmp 88),a.eval (.tmp 89),a.eval (.tmp 96)]) (by kernel_rfl) (by
    rw[show a.eval (.tmp 88)=_ from(ar Z dq 0 88),show a.eval (.tmp 89)=_ from(ar Z dq 1 89),e96];obtain⟨hn,TW,hf⟩:=HE.out;refine(Hu hpre.2 ⟨En.mk h id (j:Int) ht z,s,q9⟩ he so (fun i=>v10.heap.size<=i/\i<wx.heap.size) hJ.clip (fun i hi=>hi.2) (fun i hi hq=>?_) TW hf).mono ?_;have:=fl i (by rw[<-Xy.out];exact hq);have:=Ue.size;omega
    ·rintro r w' ⟨v',rfl,hA',hK,hl⟩;have V':Kp F wx w':=hK.mono fun i hi _=>by rw[<-Xy.out];exact hi
     refine⟨_,rfl,hC.trans V' (fun i hi _=>hi),V',(by rw[<-hn];rfl),Ph.last hsz ⟨_,v',_,hA',fun i hi=>?_⟩⟩;have h10:=Ue.size;rcases hi with(hi|hi)|rfl|rfl|hi
     exact .inl (.inl hi);exact .inr (Nat.le_trans h10 hi.1);exact .inl (.inr (.inl rfl));exact .inl (.inr (.inr (.inl rfl)))
     ·rcases hl with hl|⟨g',hl,hg⟩
      exact .inl (.inr (.inr (.inr (hl.symm.trans hi))));rw[hl]at hi;have hig:g'=i:=Option.some.inj hi;have:=hC.size;exact .inr (by omega))
  exact dA (S:=fun w w'=>Kp F w w') (fun w' _=>Kp.refl _ w') 10 Z (an rfl) (NN.fp rfl) (ar Z dq 9 97) (hI.keep (av Z 10));exact dA (S:=fun w w'=>Kp F w w') (fun w' _=>Kp.refl _ w') 11 Z (an rfl) (NN.fp rfl) rfl (hI.keep (av Z 11));exact dA (S:=fun w w'=>Kp F w w') (fun w' _=>Kp.refl _ w') 12 Z (an rfl) (NN.fp rfl) rfl (hI.keep (av Z 12))
 intro lz a' v11 hall Z;have hC:=Z.c;obtain⟨I',v',s,Vd,hm⟩:=Z.i.2 (hall 9 (by decide));have e6:a'.eval (.tmp 6)=.int .i64 (n:Int):=Z.got 10 _ 6 rfl (hall 10 (by decide)) rfl;have e7:a'.eval (.tmp 7)=.int .i64 0:=Z.got 11 _ 7 rfl (hall 11 (by decide)) rfl;have e8:a'.eval (.tmp 8)=.int .i64 0:=Z.got 12 _ 8 rfl (hall 12 (by decide)) rfl;obtain⟨u,hu⟩:∃u:Nat->Value,∀t,u t=a'.eval (.tmp t):=⟨_,fun _=>rfl⟩;rw[e_ a' 98 u Z.R4 Z.defers hu];rw[<-hu]at e6 e7 e8;clear hu Z hall;simp only[List.range,List.range.loop,List.map_cons,List.map_nil];rw[e6,e7,e8];clear e6 e7 e8;go_wp2_with fail
 go_ret3
 refine⟨I',v',s,rfl,Vd,?_,hm⟩;rw[Xy.out];exact(Kp.of (F:=F) Ue).trans hC (fun i hi _=>hi)
end An
namespace An
open Go.RowKit Mem Sc
open Ar (aq Ru aB Ok)
variable{w:World}{F:Nat->Prop}{b:Nat}{r:Ru}{M:List aq}
theorem sC{w':World}(h:iq w F b r M)(hb:Bl w w'):iq w' (iQ F w w') b r M:=(h.below hb).wide (fun _ hi=>.inl hi) (lf h.1 hb.size)
theorem jL(hA:iq w F b r M)(hM:Ok r M)(hl:M.length<=900)(hgl:r.gs.length<=1000)(hcl:r.cs.length<=1000)(hT:dQ w)(h:Hd)(ho:h.ok)(now:Int):aG 84 #[af b,.agg (aD h),i_ now] w fun e w'=>e=.returned (.tuple #[i_ (Ar.add r M h now).1.1,i_ (Ar.add r M h now).1.2.1,i_ (Ar.add r M h now).1.2.2])/\iq w' (iQ F w w') b r (Ar.add r M h now).2/\Kp F w w':=by
 have KG:∀g,decide h.P=g->aQ w 118 #[.agg (aD h)] (.bool g):=fun g hg=>h_ fun w' _=>by rw[<-hg];exact nr h ho w'
 by_cases hP:h.P
 ·have Uf:=KG true (decide_eq_true hP);have KI:aQ w 119 #[.agg (aD h)] (.agg (ae h.id)):=h_ fun w' hb=>mK h ho w' (hT.below hb)
  cases h1:Ar.j7 r.g M h.id with
  | some i=>
   have ea:Ar.add r M h now=((((i:Nat):Int),(0:Int),(0:Int)),M):=by unfold Ar.add;rw[if_neg (fun hh=>hh hP),h1]
   rw[ea];refine(Eb b h ho now w Uf h.id (iv h) KI i (h_ fun w' hb=>?_)).mono ?_;have:=xC (hA.below hb) h.id (iv h);rwa[h1]at this
   rintro e w' ⟨rfl,hb⟩;exact⟨rfl,sC hA hb,Kp.of hb⟩
  | none=>
   have KF:aQ w 120 #[af b,.agg (ae h.id)] (i_ (-1)):=h_ fun w' hb=>by
    have:=xC (hA.below hb) h.id (iv h);rwa[h1]at this
   cases h2:Ar.j7 r.g M h.prev with
   | none=>
    have ea:Ar.add r M h now=((-1,2,5),M):=(by unfold Ar.add;rw[if_neg (fun hh=>hh hP),h1];simp only[h2]);rw[ea];refine(EN b h ho now w Uf h.id (iv h) KI KF (h_ fun w' hb=>?_)).mono ?_;have:=xC (hA.below hb) h.prev ho.1;rwa[h2]at this
    rintro e w' ⟨rfl,hb⟩;exact⟨rfl,sC hA hb,Kp.of hb⟩
   | some j=>
    have KP:aQ w 120 #[af b,.agg (ae h.prev)] (i_ j):=h_ fun w' hb=>by
     have:=xC (hA.below hb) h.prev ho.1;rwa[h2]at this
    obtain⟨d,hd,_⟩:=Ar.ql h2;have hjl:=(List.getElem?_eq_some_iff.1 hd).1;have eD:M.getD j aB=d:=(by rw[List.getD_eq_getElem?_getD,hd];rfl);have hA':=hA;obtain⟨hFl,I,p,t,v,mb,L,a1,a2,a3,a4⟩:=hA';obtain⟨s,hs⟩:=a3.at hd;obtain⟨g,c,rfl,hg,hr⟩:=a1.range hs;have hx:=a1.bZ _ (List.mem_of_getElem? hs);have Wc:=a3.length;have HA:Hid (∀w',Bl w w'->fM w' I b p t r.gs r.cs r.room (.slice (aT g) L.length c) mb L):=h_ fun w' hb=>a1.below hb
    have HR:Hid (∀w',Bl w w'->w'.rangeAt g (j*144) (jc (bs r d) s)):=h_ fun w' hb=>iE hr hb (by rw[sL hx.1 hx.2];omega)
    obtain⟨c1,c2⟩:=hM.chain j d hd;have q1:=kE r.p r.g d.hs d.hs.length (Nat.le_refl _);have q2:=GJ r.p r.g d.hs d.hs.length (Nat.le_refl _);have q3:=m_ r.p r.g d.hs d.hs.length (Nat.le_refl _)
    have KC:∀y,Ar.kD r d h now=y->aQ w 121 #[.agg (NN.aE p),.agg (br s),.agg (aD h),i_ now] (i_ y):=fun y hy=>h_ fun w' hb=>by
     have TR:=HA.out w' hb;have hsp:=(TR.SM _ (List.mem_of_getElem? hs)).now;have:=FC p TR.Su t TR.tt r.gs r.cs TR.gn TR.cn (by rw[TR.gn];exact hgl) (by rw[TR.cn];exact hcl) s (Ar.spot r d) hsp.1 hsp.2.1 hsp.2.2.1 hsp.2.2.2.1 q2 (by rw[<-hsp.2.2.1];show(gQ r.p r.g d.hs d.hs.length).ts.length<=_;rw[q3];omega) h ho now w' (hT.below hb) (hsp.2.2.2.2.2.wide (Nat.le_refl _) (Nat.le_refl _)) TR.Sl.now TR.checks.now;rw[Jm a2]at this;rw[<-hy];exact this
    by_cases h3:Ar.kD r d h now=0
    ·by_cases h4:r.room<=M.length;have ea:Ar.add r M h now=((-1,0,6),M):=(by unfold Ar.add;rw[if_neg (fun hh=>hh hP),h1];simp only[h2,eD];rw[if_neg (fun hh=>hh h3),if_pos h4]);rw[ea];refine au (EV b h ho now w Uf h.id (iv h) KI KF HA ⟨bs r d,s,Ar.spot r d⟩ hx.1 hx.2 j (by rw[Wc];exact hjl) HR KP (KC 0 h3) (by rw[Wc];exact h4)) fun w' hb=>?_;exact⟨rfl,sC hA hb,Kp.of hb⟩
     ·have ea:Ar.add r M h now=((((M.length:Nat):Int),(0:Int),(0:Int)),M++[⟨d.hs++[h],(j:Int)⟩]):=(by unfold Ar.add;rw[if_neg (fun hh=>hh hP),h1];simp only[h2,eD];rw[if_neg (fun hh=>hh h3),if_neg h4]);rw[ea];have hf:(L.map (·.e.id)).findIdx? (· == h.id)=none:=(by rw[a3.find];exact h1);have sx:s.x=(Ar.spot r d).x:=((a1.SM _ (List.mem_of_getElem? hs)).now).1;refine(wi b h ho now w Uf h.id (iv h) KI KF HA ⟨bs r d,s,Ar.spot r d⟩ hx.1 hx.2 j (by rw[Wc];exact hjl) HR KP (KC 0 h3) (by rw[Wc];exact h4) (NN.ofBits h.bits) (NN.Nm.cap (fu r d.hs+NN.ofBits h.bits)) (h_ fun w'=>NN.xQ h.bits w') (h_ fun b' w' hL=>NN.zg _ _ (si r d.hs) (NN.IS _) _ rfl b' w' hL) (bh r.p (Ar.spot r d) h) (iv h) (h_ fun w' hb=>?_) (d.hs.length+1:Nat) (by show s.x.h=_;rw[sx];exact q1) rfl (by rw[Wc];exact hl) hf).mono ?_;have TR:=HA.out w' hb;have hsp:=(TR.SM _ (List.mem_of_getElem? hs)).now;refine(JL p TR.Su s hx.2 (Ar.spot r d).ts hsp.2.2.1 hsp.2.2.2.1 (by rw[<-hsp.2.2.1];show(gQ r.p r.g d.hs d.hs.length).ts.length<=_;rw[q3];omega) (by obtain⟨b2,e⟩:=hsp.2.2.2.2.1;rw[e];intro h;cases h) (by rw[sx];show 0<=(gQ r.p r.g d.hs d.hs.length).x.h;rw[q1];omega) (by rw[sx];show(gQ r.p r.g d.hs d.hs.length).x.h<=_;rw[q1];omega) h ho w' (hT.below hb) (hsp.2.2.2.2.2.wide (Nat.le_refl _) (Nat.le_refl _))).mono ?_;rintro r2 w2 ⟨b',c',rfl,g1,g2,g3⟩;refine⟨_,rfl,⟨?_,rfl,rfl,g1,⟨b',rfl⟩,g2⟩,g3⟩;show zu p s.x h=zu r.p (Ar.spot r d).x h;rw[sx];exact congrArg Ps.x (LC a2 (Ar.spot r d) h)
      ·rintro e w' ⟨I',v',s',rfl,g1,g2,g3⟩;have hK:Kp F w w':=g2.mono fun i hi _=>a4 i (.inr hi)
       refine⟨by rw[Wc],⟨lf hFl hK.size,I',p,t,v',mb,_,g1,a2,?_,fun i hi=>?_⟩,hK⟩
       ·have hp:=a3.put ⟨d.hs++[h],(j:Int)⟩ s'
        have e1:bs r ⟨d.hs++[h],(j:Int)⟩=⟨h,h.id,(j:Int),((d.hs.length+1:Nat):Int),NN.Nm.cap (fu r d.hs+NN.ofBits h.bits)⟩:=by
         unfold bs;rw[Ar.iA,Cr];simp
        rw[e1,Ar.Ie]at hp;exact hp
       ·rcases g3 i hi with hi2|hi2
        exact .inl (a4 i hi2);exact .inr ⟨hi2,g1.SS hi⟩
    have ea:Ar.add r M h now=((-1,Ar.kD r d h now,8),M):=(by unfold Ar.add;rw[if_neg (fun hh=>hh hP),h1];simp only[h2,eD];rw[if_pos h3]);rw[ea];refine au (E' b h ho now w Uf h.id (iv h) KI KF HA ⟨bs r d,s,Ar.spot r d⟩ hx.1 hx.2 j (by rw[Wc];exact hjl) HR KP (Ar.kD r d h now) (by simpa using h3) (KC _ rfl)) fun w' hb=>?_;exact⟨rfl,sC hA hb,Kp.of hb⟩
 ·have ea:Ar.add r M h now=((-1,1,8),M):=by unfold Ar.add;rw[if_pos hP]
  rw[ea];refine au (xA b h ho now w (KG false (decide_eq_false hP))) fun w' hb=>?_;exact⟨rfl,sC hA hb,Kp.of hb⟩
end An
namespace An
open Go.RowKit Mem Sc
theorem IB(p:NN.Pr)(hz:(NN.aE p).size=83)(t:Tl)(tt:p.tl=t.C)(ht:t.ok)(gs:List Gt)(cs:List Ck)(gn cn:Nat)(egn:t.gn=gn)(ecn:t.cn=cn)(hgn:gn=gs.length)(hcn:cn=cs.length)(hgl:gn<=1000)(hcl:cn<=1000)(b1 b2 g1 g2 XO:Bool)(hg1:mS (-1) gs=g1)(hg2:kh 0 cs=g2)(hall:(b1&&b2&&g1&&g2)=XO)(w:World)(hG:aJ w t.ga gs)(hC:az w t.ca cs)(KP:zF 72 #[.agg (NN.aE p)] (.bool b1))(KH:zF 73 #[.agg (aD t.g)] (.bool b2)):ak 37 #[.agg (NN.aE p)] w (.bool XO):=by
 have WD:=h_ hgn;have WE:=h_ hcn;have HAG:=h_ hG;have HAC:=h_ hC;have HVG:=h_ hg1;have HVC:=h_ hg2;have SX:=h_ hall;clear hgn hcn hG hC hg1 hg2 hall;go_enter Tryz.func37,Tryz.ntmps37;go_upto_region 1 with fail
 generalize hw0:World.alloc _ _=v0;have hB:Bl w v0:=dd hw0;have hP:NN.aA v0 w.heap.size p:=by rw[<-hw0];exact NN.Has.new _ _
 clear hw0;obtain⟨bP,Sf⟩:∃x,x=w.heap.size:=⟨_,rfl⟩;rw[<-Sf]at hP|-;clear Sf;have gq:=er ht.2;go_wp2_with (first|fail|(with_reducible refine NN.dH rfl _ rfl _ rfl hP hz ?_))
 refine au (KP.out _) fun v1 hb=>?_;replace hP:=hP.on hb;replace hB:=ah hB hb;clear hb;cases b1
 ·have hv:=SX.out;go_wp2_with fail
  go_ret;exact⟨by rw[<-hv];rfl,hB⟩
 have rg:=jP hP tt ht;go_wp2_with (first|fail|(with_reducible refine JW (by with_unfolding_all rfl) _ rfl bP 15 rfl t.g rg gq ?_))
 refine au (KH.out _) fun v2 hb=>?_;replace hP:=hP.on hb;replace hB:=ah hB hb;clear hb rg;cases b2
 ·have hv:=SX.out;go_wp2_with fail
  go_ret;exact⟨by rw[<-hv];rfl,hB⟩
 have c5:=ni hP tt;rw[egn]at c5;generalize hga:t.ga=ga at*;generalize t.gc=gc at*;go_wp2_with fail
 clear c5;go_loopw [3,20] (fun m i wr=>∃k:Nat,k<=gn/\i=i_ k/\∃z:Int,m=i_ z/\Hid (mS z (gs.drop k)=g1)/\NN.aA wr bP p/\Bl w wr) (fun _ i _=>gn-(intOf i).toNat)
 case atStart=>exact⟨0,by omega,rfl,_,rfl,HVG,hP,hB⟩
 case round=>
  clear hP hB;obtain⟨k,hk,rfl,z,rfl,HZ,hP,hB⟩:=hrel;by_cases hlt:k<gn
  ·obtain⟨ab,ao,hae,Sv,hc⟩:=(HAG.out.below hB) (by rw[<-WD.out];omega);subst hae
   have hd:gs.drop k=gs.getD k kJ::gs.drop (k+1):=by
    have hk2:k<gs.length:=(by rw[<-WD.out];exact hlt);rw[List.drop_eq_getElem_cons hk2,List.getD_eq_getElem?_getD,List.getElem?_eq_getElem hk2];rfl
   have q0:=hc k (by rw[<-WD.out];omega);rw[show gs[k]'(by rw[<-WD.out];omega)=gs.getD k kJ by rw[List.getD_eq_getElem?_getD,List.getElem?_eq_getElem (by rw[<-WD.out];omega)];rfl]at q0;have hx:=HZ.out;rw[hd]at hx;clear hd HZ;generalize gs.getD k kJ=y at*;have HX:=h_ hx;clear hx hc;have hnew:=xN wr;have hb2:Bl wr ((wr.alloc (.cells #[i_ 0,i_ 0] 108)).setRow wr.heap.size (mD y)):=below_setRow aY (Nat.le_refl _) _;have hG:kr ((wr.alloc (.cells #[i_ 0,i_ 0] 108)).setRow wr.heap.size (mD y)) wr.heap.size y:=Has.row hnew _;have hB2:=ah hB hb2;have hP2:=NN.aA.on hP hb2;have c0:=hG.c0;clear hG hB hb2 hP;cases t1:decide (y.h<=z)
   ·have HZ2:Hid (mS y.h (gs.drop (k+1))=g1):=h_ (by
     have:=HX.out;rw[show mS z (y::gs.drop (k+1))=(decide (z<y.h)&&mS y.h (gs.drop (k+1)))from rfl,decide_eq_true (show z<y.h by have:=of_decide_eq_false t1;omega),Bool.true_and]at this;exact this)
    clear HX;obtain⟨yh,UI⟩:∃yh,yh=y.h:=⟨_,rfl⟩;rw[<-UI]at c0 t1 HZ2;clear UI;(go_wp2_with (with_reducible first|refine lu rfl _ rfl ab (ao+k*2) rfl y q0 ?_|refine kU rfl _ _ rfl _ y rfl rfl hnew ?_));go_roundw
    case rel=>exact⟨k+1,by omega,by go_num,yh,rfl,HZ2,hP2,hB2⟩
    case measure=>simp[intOf];omega
   ·have hgf:g1=false:=by
     rw[<-HX.out,show mS z (y::gs.drop (k+1))=(decide (z<y.h)&&mS y.h (gs.drop (k+1)))from rfl,decide_eq_false (show¬z<y.h by have:=of_decide_eq_true t1;omega),Bool.false_and]
    have hv:=SX.out;rw[hgf]at hv;clear HX;(go_wp2_with (with_reducible first|refine lu rfl _ rfl ab (ao+k*2) rfl y q0 ?_|refine kU rfl _ _ rfl _ y rfl rfl hnew ?_));go_ret;exact⟨by rw[<-hv];simp,hB2⟩
  ·obtain rfl:k=gn:=by omega
   have e:g1=true:=by
    have:=HZ.out;rw[WD.out,List.drop_length]at this;exact this.symm
   subst e;have c6:=mV hP tt;rw[ecn]at c6;generalize Vw:t.ca=ca at*;generalize t.cc=cc at*;go_wp2_with fail
   clear c6;have hB':=hB;have hP':=hP;go_loopw [3,34] (fun m i wr=>∃k:Nat,k<=cn/\i=i_ k/\∃z:Int,m=i_ z/\Hid (kh z (cs.drop k)=g2)/\NN.aA wr bP p/\Bl w wr) (fun _ i _=>cn-(intOf i).toNat)
   case atStart=>exact⟨0,by omega,rfl,_,rfl,HVC,hP',hB'⟩
   case round=>
    clear hP' hB' hP hB;obtain⟨k,hk,rfl,z,rfl,HZ,hP,hB⟩:=hrel;by_cases hlt:k<cn
    ·obtain⟨ab,ao,hae,Sv,hc⟩:=(HAC.out.below hB) (by rw[<-WE.out];omega);subst hae
     have hd:cs.drop k=cs.getD k jG::cs.drop (k+1):=by
      have hk2:k<cs.length:=(by rw[<-WE.out];exact hlt);rw[List.drop_eq_getElem_cons hk2,List.getD_eq_getElem?_getD,List.getElem?_eq_getElem hk2];rfl
     have q0:=hc k (by rw[<-WE.out];omega);rw[show cs[k]'(by rw[<-WE.out];omega)=cs.getD k jG by rw[List.getD_eq_getElem?_getD,List.getElem?_eq_getElem (by rw[<-WE.out];omega)];rfl]at q0;have hx:=HZ.out;rw[hd]at hx;clear hd HZ;generalize cs.getD k jG=y at*;have HX:=h_ hx;clear hx hc;have z1:=nJ q0.1;have z2:=rD q0.1;have z0:=rD (c:=jG) rfl;have hnew:=qQ wr;have hb2:=vR (Below.refl wr.heap.size wr) y;have hG:=tj wr y;have hB2:=ah hB hb2;have hP2:=NN.aA.on hP hb2;have c0:=hG.c0;clear hG hB hb2 hP;cases t1:decide (y.h<=z)
     ·have HZ2:Hid (kh y.h (cs.drop (k+1))=g2):=h_ (by
       have:=HX.out;rw[show kh z (y::cs.drop (k+1))=(decide (z<y.h)&&kh y.h (cs.drop (k+1)))from rfl,decide_eq_true (show z<y.h by have:=of_decide_eq_false t1;omega),Bool.true_and]at this;exact this)
      clear HX;obtain⟨yh,UI⟩:∃yh,yh=y.h:=⟨_,rfl⟩;rw[<-UI]at c0 t1 HZ2;clear UI;(go_wp2_with (with_reducible first|refine mB rfl _ rfl ab (ao+k*33) rfl y q0.2 z1 ?_|refine mF rfl _ _ rfl _ y rfl rfl z2 hnew z0 ?_));go_roundw
      case rel=>exact⟨k+1,by omega,by go_num,yh,rfl,HZ2,hP2,hB2⟩
      case measure=>simp[intOf];omega
     ·have hgf:g2=false:=by
       rw[<-HX.out,show kh z (y::cs.drop (k+1))=(decide (z<y.h)&&kh y.h (cs.drop (k+1)))from rfl,decide_eq_false (show¬z<y.h by have:=of_decide_eq_true t1;omega),Bool.false_and]
      have hv:=SX.out;rw[hgf]at hv;clear HX;(go_wp2_with (with_reducible first|refine mB rfl _ rfl ab (ao+k*33) rfl y q0.2 z1 ?_|refine mF rfl _ _ rfl _ y rfl rfl z2 hnew z0 ?_));go_ret;exact⟨by rw[<-hv];simp,hB2⟩
    ·obtain rfl:k=cn:=by omega
     have e:g2=true:=by
      have:=HZ.out;rw[WE.out,List.drop_length]at this;exact this.symm
     subst e;have hv:=SX.out;(go_wp2_with fail);go_ret;exact⟨by rw[<-hv];rfl,hB⟩
theorem NB(p:NN.Pr)(hp:p.ok)(t:Tl)(tt:p.tl=t.C)(ht:t.ok)(gs:List Gt)(cs:List Ck)(hgn:t.gn=gs.length)(hcn:t.cn=cs.length)(hgl:t.gn<=1000)(hcl:t.cn<=1000)(w:World)(hG:aJ w t.ga gs)(hC:az w t.ca cs):ak 37 #[.agg (NN.aE p)] w (.bool (jo p t.g gs cs)):=
 IB p (NN.eH hp) t tt ht gs cs t.gn t.cn rfl rfl hgn hcn hgl hcl _ _ _ _ _ rfl rfl rfl w hG hC (h_ (NN.mj p)) (h_ (mj t.g ht.2))
open Ar (aq Ok Ru aB)
structure Cm where
 h:Hd
 now:Int
def RN:Cm:=⟨du,0⟩
section
variable{w w':World}{k:Nat}{c:Cm}
variable{ops:Array Oper}{rest:List Oper}{o:Oper}{a:Act}{Q:Exit->Act->World->Prop}
end
def neg(cs:List Cm):Bool:=cs.any (fun c=>decide (c.now<0))
theorem Mw{w:World}{ops:Array Oper}{rest:List Oper}{o:Oper}{a:Act}{Q:Exit->Act->World->Prop}(hgd:o.guard=none)(ho:o.op=.build 32 #[(0,.const (i_ 545259519)),(1,.const (i_ 4)),(2,.const (i_ 10))])(hk:wpList Tryz.prog ops Q rest (a.put o.dst (.agg (NN.aE NN.uQ))) w):wpList Tryz.prog ops Q (o::rest) a w:=NN.Eo hgd ho hk
section
variable{w:World}{k:Nat}{e:En}
theorem bB.head(h:bB w k e):w.rangeAt k 0 (bq e.h):=by have:=gd (A:=[]) (cs:=bq e.h) (C:=Lib.byteCells e.id++(i_ e.up::i_ e.ht::(NN.aa e.wk).toList)) (o:=0) (w:=w) (b:=k) (t:=60) h rfl;exact this
theorem bB.tail(h:bB w k e)(ho:e.ok):w.rangeAt k 100 (i_ e.up::i_ e.ht::(NN.aa e.wk).toList):=by have:=gd (A:=bq e.h++Lib.byteCells e.id) (cs:=i_ e.up::i_ e.ht::(NN.aa e.wk).toList) (C:=[]) (o:=100) (w:=w) (b:=k) (t:=60) (by rw[List.append_nil,List.append_assoc];exact h) (by simp[er ho.1,il ho.2]);exact this
theorem bB.up(h:bB w k e)(ho:e.ok){z:Int}(hz:Hid (e.up=z)):w.cell? ⟨k,100,none⟩=some (i_ z):=by rw[<-hz.out];exact h.tail ho 0 _ rfl
theorem bB.ht(h:bB w k e)(ho:e.ok){z:Int}(hz:Hid (e.ht=z)):w.cell? ⟨k,101,none⟩=some (i_ z):=by rw[<-hz.out];exact h.tail ho 1 _ rfl
theorem lX(w:World)(e:En):bB ((w.alloc (.cells Tryz.zeroCells60 60)).setRow w.heap.size (bT e)) w.heap.size e:=Has.row (gL w) _
end
theorem mz(w:World)(T:TypeId)(z cs:Array Value):Bl w ((w.alloc (.cells z T)).setRow w.heap.size cs):=below_setRow aY (Nat.le_refl _) _
theorem se:∃i y,Tryz.prog.info? 3=some i/\i.zero=some y/\i.size=1/\i.bytes=8/\y.cells.size=1:=sJ (by kernel_rfl) (by kernel_rfl) (by kernel_rfl)
variable{w:World}{ops:Array Oper}{rest:List Oper}{o:Oper}{a:Act}{Q:Exit->Act->World->Prop}
theorem QE(hgd:o.guard=none)(s x:Operand)(ho:o.op=.call { callee:=.builtin .append,args:=#[s,x],argTypes:=#[49,49] })(v:Value)(n:Nat)(l:List Int)(hs:a.eval s=v)(hown:w.ownsRow 0 3 1 v n (l.map (Value.int .i64)))(g:Nat)(z:Int)(hx:a.eval x=.slice (aT g) 1 1)(hz:w.cell? ⟨g,0,none⟩=some (i_ z))(hn:n<=900)(h:∀v' w',w'.ownsRow 0 3 1 v' (n+1) ((l++[z]).map (Value.int .i64))->w.grownBy w' v.ownBlock->(v'.ownBlock=v.ownBlock\/v'.ownBlock=some w.heap.size)->wpList Tryz.prog ops Q rest (a.put o.dst v') w'):wpList Tryz.prog ops Q (o::rest) a w:=by
 obtain⟨i,y,hi,hzz,h1,h2,h3⟩:=se;refine wpList_append_own_at (P:=Tryz.prog) w hgd s x 49 ho 0 3 i y 1 8 Tryz.underlying49 hi hzz h1 h2 h3 (by decide) v n _ hs hown ⟨g,0,none⟩ 1 1 [i_ z] hx rfl (fun j u hj=>?_) (fun u hu=>?_) (by unfold maxLen;omega) (by omega) (Nat.zero_le _) (fun v' w' g1 g2 _ g4=>h v' w' (by rw[List.map_append];exact g1) g2 g4)
 ·match j,hj with
  | 0,hj=>rw[Addr.add_lit,Nat.zero_add,hz];exact hj
  | j+1,hj=>simp at hj
 ·obtain rfl:u=i_ z:=by simpa using hu
  rfl
theorem zC{base:Nat}{T:TypeId}{size:Nat}{a:Option Addr}{n c m:Nat}{xs:List Value}(h:w.ownsRow base T size (.slice a n c) m xs)(hm:0<m):m<=c:=by
 rcases h.2 with⟨_,h0⟩|⟨g,c2,cur,e,_,_,h3,_⟩
 omega;cases e;exact h3
theorem Rl(hgd:o.guard=none)(s x:Operand)(ho:o.op=.call { callee:=.builtin .append,args:=#[s,x],argTypes:=#[68,68] })(hty:o.type=68)(base g:Nat)(y:Hd)(hy:y.ok)(hs:a.eval s=.slice (aT g) 1 1)(hg:Has w g (aD y) 30)(hbg:base<=g)(hbase:base<=w.heap.size)(ad:Option Addr)(m c:Nat)(z:List Hd)(hx:a.eval x=.slice ad m c)(hz:z.length=m)(hnil:ad=none->m=0/\c=0)(hL:aO w ad z)(hn:m<=900)(h:∀XP c' w',aO w' XP (y::z)->XP≠none->w.grownBy w' (some g)->m+1<=c'->wpList Tryz.prog ops Q rest (a.put o.dst (.slice XP (m+1) c')) w'):wpList Tryz.prog ops Q (o::rest) a w:=by
 obtain⟨i,y0,hi,hzz,h1,h2,h3⟩:=Bs;have hown:w.ownsRow base 30 68 (.slice (aT g) 1 1) 1 (bq y):=⟨by rw[er hy],.inr ⟨g,1,aD y,rfl,hbg,hg,Nat.le_refl _,by decide,fX hy,by show((bq y).toArray.toList).take 68=_;rw[<-er hy];simp⟩⟩;by_cases h0:0<m
 ·obtain⟨ab,ao,rfl,hlt,hc⟩:=hL (by omega);have hok:∀q∈z,q.ok:=fun q hq=>by obtain⟨i,hi,e⟩:=List.mem_iff_getElem.1 hq;rw[<-e];exact(hc i hi).1
  refine wpList_append_own_at (P:=Tryz.prog) w hgd s x 68 ho base 30 i y0 68 96 Tryz.underlying68 hi hzz h1 h2 h3 (by decide) _ 1 _ hs hown ⟨ab,ao,none⟩ m c (iJ z) hx ?_ (fun j u hj=>?_) (fun u hu=>?_) (by unfold maxLen;omega) (by omega) hbase (fun v' w' g1 g2 _ _=>?_);rw[<-hz];exact tU bq 68 z (fun q hq=>er (hok q hq))
  ·rw[Addr.add_lit]
   exact A6 bq 68 (by decide) z (fun q hq=>er (hok q hq)) (fun i q hi=>by
    obtain⟨e1,e2⟩:=List.getElem?_eq_some_iff.1 hi;rw[<-e2];exact(hc i e1).2) j u hj
  exact lV bq z (fun q _=>oQ q) u hu
  ·have hok2:∀q∈y::z,q.ok:=fun q hq=>by
    rcases List.mem_cons.1 hq with rfl|hq
    exact hy;exact hok q hq
   obtain⟨a',c',rfl,h4⟩:=Ef (hs:=y::z) (n:=1+m) g1 (by simp;omega) hok2;rw[Nat.add_comm];exact h a' c' w' h4 (fun e=>by obtain⟨_,_,e2,_⟩:=h4 (by simp);rw[e]at e2;cases e2) g2 (by have:=zC g1 (by omega);omega)
 ·obtain rfl:z=[]:=List.eq_nil_of_length_eq_zero (by omega);have hm0:m=0:=by omega
  have XQ:aO w (aT g) [y]:=fun _=>⟨g,0,rfl,Has.lt hg,fun i hi=>by
   obtain rfl:i=0:=by simpa using hi
   refine⟨hy,?_⟩;have:=gd (A:=[]) (cs:=bq y) (C:=[]) (o:=0) (w:=w) (b:=g) (t:=30) (by rw[List.append_nil];exact hg) rfl;exact this⟩
  cases ad with
  | none=>
   obtain⟨_,rfl⟩:=hnil rfl;subst hm0;have hrun:=run_append_owned_none (P:=Tryz.prog) (w:=w) base 68 68 30 i 68 Tryz.underlying68 hi _ 1 _ hown;refine wpList_plain hgd fun _ hK=>?_
   unfold Oper.wp execOp;simp only[ho,hty,resolve,invoke,builtin,Sem.run_bind,Sem.run_pure,Result.andThen_ok,List.map_toArray,List.map_cons,List.map_nil,hs,hx,hrun];exact hK _ _ (h _ _ w XQ (fun e=>by cases e) ⟨rfl,rfl,rfl,Nat.le_refl _,fun _ _ _=>rfl⟩ (Nat.le_refl _))
  | some ad=>
   subst hm0;refine wpList_append_own_at (P:=Tryz.prog) w hgd s x 68 ho base 30 i y0 68 96 Tryz.underlying68 hi hzz h1 h2 h3 (by decide) _ 1 _ hs hown ad 0 c [] hx rfl (fun j u hj=>by simp at hj) (fun u hu=>by cases hu) (by unfold maxLen;omega) (by omega) hbase (fun v' w' g1 g2 _ _=>?_);obtain⟨a',c',rfl,h4⟩:=Ef (hs:=[y]) (n:=1+0) (by rw[List.append_nil]at g1;show w'.ownsRow _ _ _ _ _ (bq y++[]);rw[List.append_nil];exact g1) rfl (fun q hq=>(List.mem_singleton.1 hq).symm▸hy);exact h a' c' w' h4 (fun e=>by obtain⟨_,_,e2,_⟩:=h4 (by simp);rw[e]at e2;cases e2) g2 (by have:=zC g1 (by omega);omega)
end An
namespace An
open Go.RowKit Mem Sc NN.Si
open Ar (aq Ru aB)
def gC(w:World)(B:Nat)(F:Nat->Prop)(b:Nat)(r:Ru)(M:List aq):Prop:=
 B<=w.heap.size/\(∀i,F i->B<=i/\i<w.heap.size)/\F b/\∃p t vH vI vA vW ws,sV w (fun i=>i<B) b p t r.gs r.cs r.room vH vI vA vW (M.map (aq.h r.g)) (M.map fun e=>(e.h r.g).id) (M.map aq.up) ws/\Alike p t r/\ws=M.map (fun e=>fu r e.hs)/\(∀i,vH.ownBlock=some i->F i)/\(∀i,vI.ownBlock=some i->F i)/\(∀i,vA.ownBlock=some i->F i)/\(∀i,vW.ownBlock=some i->F i)
section
variable{w w':World}{B:Nat}{F G:Nat->Prop}{b:Nat}{r:Ru}{M:List aq}
theorem gC.on(h:gC w B F b r M)(k:Kp G w w')(hG:∀i,F i->¬G i)(hB:∀i,G i->B<=i):gC w' B F b r M:=by
 obtain⟨h0,h1,h2,p,t,vH,vI,vA,vW,ws,h3,h4,h5,g1,g2,g3,g4⟩:=h;refine⟨Nat.le_trans h0 k.size,fun i hi=>⟨(h1 i hi).1,Nat.lt_of_lt_of_le (h1 i hi).2 k.size⟩,h2,p,t,vH,vI,vA,vW,ws,h3.on k ?_,h4,h5,g1,g2,g3,g4⟩;rintro i (hi|rfl|hi|hi|hi|hi);exact fun hg=>absurd (hB i hg) (by omega)
 exact hG _ h2;exact hG _ (g1 i hi);exact hG _ (g2 i hi);exact hG _ (g3 i hi);exact hG _ (g4 i hi)
theorem gC.below(h:gC w B F b r M)(hb:Bl w w'):gC w' B F b r M:=h.on (G:=fun _=>False) (Kp.of hb) (fun _ _ hf=>hf) fun _ hf=>hf.elim
theorem gC.wide(h:gC w B F b r M)(hF:∀i,F i->G i)(hG:∀i,G i->B<=i/\i<w.heap.size):gC w B G b r M:=by obtain⟨h0,_,h2,p,t,vH,vI,vA,vW,ws,h3,h4,h5,g1,g2,g3,g4⟩:=h;exact⟨h0,hG,hF _ h2,p,t,vH,vI,vA,vW,ws,h3,h4,h5,fun i hi=>hF _ (g1 i hi),fun i hi=>hF _ (g2 i hi),fun i hi=>hF _ (g3 i hi),fun i hi=>hF _ (g4 i hi)⟩
end
variable{w:World}{B b room base n:Nat}{cs:Array Value}{T:TypeId}{u vH vI vA vW v:Value}
theorem vQ(h:gM B cs T u w):w.ownsRow 0 T cs.size u 1 cs.toList:=by obtain⟨g,rfl,h1,h2⟩:=h;exact⟨by simp,.inr ⟨g,1,cs,rfl,Nat.zero_le _,h2,Nat.le_refl _,by decide,by simp,by rw[Nat.one_mul,List.take_of_length_le (by simp)]⟩⟩
theorem rq(h:gM B cs T u w):∀i,u.ownBlock=some i->B<=i/\i<w.heap.size:=by obtain⟨g,rfl,h1,h2⟩:=h;intro i hi;cases hi;exact⟨h1,h2.lt⟩
theorem Ep(p:NN.Pr)(hp:p.ok)(h1:p.one)(t:Tl)(tt:p.tl=t.C)(ht:t.ok)(gs:List Gt)(cs:List Ck)(hgn:t.gn=gs.length)(hcn:t.cn=cs.length)(room:Int)(w0 w:World)(h0:Bl w0 w)(hG:aJ w0 t.ga gs)(hC:az w0 t.ca cs):aG 39 #[.agg (NN.aE p),i_ room] w fun e w'=>∃b,e=.returned (af b)/\gC w' w0.heap.size (fun i=>w.heap.size<=i/\i<w'.heap.size) b ⟨p,t.g,gs,cs,dO room⟩ [aB]/\Bl w w':=by
 refine(uM p hp t tt ht t.g rfl ht.2 t.g.id (iv _) room w (h_ fun w' _=>iX t.g ht.2 w')).mono ?_;rintro e w' ⟨u,rfl,⟨b,cs',rfl,hb0,hh,vH,vI,vA,vW,rfl,rH,rI,rA,z,hz,rW⟩,hb⟩;have sH:=vQ rH;have sI:=vQ rI;have sA:=vQ rA;have sW:=vQ rW;rw[fX ht.2]at sH;rw[show(ae t.g.id).size=32 by simp[ae,iv]]at sI;rw[NN.fU]at sW;have hs0:=h0.size;have hb2:Bl w0 w':=h0.trans (hb.mono hs0);have no:∀{cs:Array Value}{T:TypeId}{u:Value},gM w.heap.size cs T u w'->∀k,u.ownBlock=some k->¬k<w0.heap.size:=fun hr k hk hlt=>absurd (rq hr k hk).1 (by omega)
 refine⟨b,rfl,⟨Nat.le_trans hs0 hb.size,fun i hi=>⟨Nat.le_trans hs0 hi.1,hi.2⟩,⟨hb0,hh.lt⟩,p,t,vH,vI,vA,vW,[z],?_,⟨rfl,rfl,rfl,rfl,rfl,rfl⟩,by rw[hz.2];rfl,rq rH,rq rI,rq rA,rq rW⟩,hb⟩
 exact{
  has:=hh,Su:=hp,one:=h1,tt:=tt,tok:=ht,gn:=hgn,cn:=hcn
  TG:=by simpa[Ar.oy,aB,aD]using sH
  TU:=by simpa[Ar.oy,aB,iD]using sI
  TH:=by simpa[aB]using sA
  TV:=by simpa using sW
  Sl:=Nc (hG.below hb2) fun h0 ad ha=>by
   obtain⟨ab,ao,ha',hlt,_⟩:=hG h0;rw[ha']at ha;cases ha;exact hlt
  checks:=I3 (hC.below hb2) fun h0 ad ha=>by
   obtain⟨ab,ao,ha',hlt,_⟩:=hC h0;rw[ha']at ha;cases ha;exact hlt
  nb:=by omega
  nH:=no rH,nI:=no rI,nA:=no rA,nW:=no rW
  lt:=fun i hi=>Nat.lt_of_lt_of_le hi hb2.size
  bZ:=fun h hh=>by
   obtain rfl:h=t.g:=by simpa[Ar.oy,aB]using hh
   exact ht.2
  name:=fun l hl=>by
   obtain rfl:l=t.g.id:=by simpa[Ar.oy,aB]using hl
   exact iv _
  small:=fun x hx=>by
   obtain rfl:x=z:=by simpa using hx
   exact hz.1 }
variable{p:NN.Pr}
theorem B_(h:Has w b (iz p vH vI vA vW room) 72)(hp:p.ok):w.cell? ⟨b,84,none⟩=some vI:=by rw[Has.cell h 84];unfold iz Ce;rw[List.getElem?_toArray,List.getElem?_append_right (by rw[jz hp];omega),jz hp];rfl
theorem lB{size:Nat}{A cs C:List Value}(h:w.ownsRow base T size v n (A++(cs++C)))(hn:0<n):∃g c,v=.slice (aT g) n c/\w.rangeAt g A.length cs:=by
 rcases h.2 with⟨_,h0⟩|⟨g,c,cur,rfl,_,h2,_,_,_,h6⟩
 omega
 ·refine⟨g,c,rfl,fun j u hu=>?_⟩
  have e:(cur.toList.take (n*size))[A.length+j]?=some u:=by
   rw[h6,List.getElem?_append_right (by omega),Nat.add_sub_cancel_left,List.getElem?_append_left (List.getElem?_eq_some_iff.1 hu).1];exact hu
  rw[Has.cell (show Has w g cur T from h2),<-Array.getElem?_toList];rw[List.getElem?_take]at e;split at e;exact e;cases e
theorem qZ{α:Type}(f:α->List Value)(size:Nat):∀(l:List α)(_:∀x∈l,(f x).length=size)(i:Nat)(x:α),l[i]?=some x->∃A C,l.flatMap f=A++(f x++C)/\A.length=i*size
 | y::l,_,0,x,h=>⟨[],l.flatMap f,by cases h;simp,by simp⟩
 | y::l,hf,i+1,x,h=>by
  obtain⟨A,C,h1,h2⟩:=qZ f size l (fun x hx=>hf x (List.mem_cons_of_mem _ hx)) i x (by simpa using h);exact⟨f y++A,C,by simp[h1],by rw[List.length_append,hf y List.mem_cons_self,h2,Nat.add_mul];omega⟩
theorem FH{ids:List (List UInt8)}(h:w.ownsRow 0 28 32 v ids.length (ids.flatMap Lib.byteCells))(h32:∀l∈ids,l.length=32){k:Nat}{x:List UInt8}(hx:ids[k]?=some x):∃g c,v=.slice (aT g) ids.length c/\w.rangeAt g (k*32) (Lib.byteCells x):=by obtain⟨A,C,e,hA⟩:=qZ Lib.byteCells 32 ids (fun l hl=>by rw[Lib.byteCells_length,h32 l hl]) k x hx;rw[e]at h;have:=(List.getElem?_eq_some_iff.1 hx).1;obtain⟨g,c,e1,e2⟩:=lB h (by omega);rw[hA]at e2;exact⟨g,c,e1,e2⟩
def idx(ids:List (List UInt8))(id:List UInt8):Int:=match ids.findIdx? (· == id)with|some i=>(i:Int)|none=>-1
theorem wR(p:NN.Pr)(hp:p.ok)(vH vI vA vW:Value)(room b:Nat)(ids:List (List UInt8))(n:Nat)(hn:n=ids.length)(hl:n<=4611686018427387904)(hpos:0<n)(h32:∀l∈ids,l.length=32)(id:List UInt8)(i32:id.length=32)(z:Int)(hz:idx ids id=z)(w:World)(hA:Has w b (iz p vH vI vA vW room) 72)(hI:w.ownsRow 0 28 32 vI ids.length (ids.flatMap Lib.byteCells)):ak 77 #[af b,.agg (ae id)] w (i_ z):=by
 obtain⟨x0,hx0⟩:∃x,ids[0]?=some x:=⟨_,List.getElem?_eq_getElem (by rw[<-hn];exact hpos)⟩;obtain⟨g,c,rfl,hr0⟩:=FH hI h32 hx0;clear hr0 hx0;rw[<-hn]at hA hI;have HN:=h_ hn;have HZ:=h_ hz;have Ud:=B_ hA hp;have s1:(ae id).size=32:=by rw[jH];exact i32
 have HI:=h_ fun(w':World)(hb:Bl w w')=>ax hI (Kp.of (F:=fun _=>False) hb) fun _ _ hf=>hf
 clear hn hz hI hA;go_enter Tryz.func77,Tryz.ntmps77;go_upto_region 1 with fail
 generalize hw0:World.alloc _ _=v0;have hB:Bl w v0:=dd hw0;have hX:Has v0 w.heap.size (ae id) 28:=by rw[<-hw0];exact Has.new _ _
 have Ud:v0.cell? ⟨b,84,none⟩=some (.slice (aT g) n c):=by rw[<-Ud];exact World.cell?_of_block (hB.block b (block_lt_of_cell Ud))
 clear hw0;obtain⟨bX,hbX⟩:∃x,x=w.heap.size:=⟨_,rfl⟩;rw[<-hbX]at hX|-;clear hbX;have o1:=j6 id;have ng:Hid (∀d os,(Sort.grow (redrawn v0 d) os).cell? ⟨b,84,none⟩=some (.slice (aT g) n c)):=h_ (cell_regrown Ud);go_wp2_with fail
 go_loopw [12] (fun i wr=>∃k:Nat,k<=n/\i=i_ k/\Hid (ids.findIdx? (· == id)=((ids.drop k).findIdx? (· == id)).map (· + k))/\Has wr bX (ae id) 28/\Bl w wr) (fun i _=>n-(intOf i).toNat)
 case atStart=>exact⟨0,by omega,rfl,h_ (by simp),hX,hB⟩
 case round=>
  clear hX hB Ud;obtain⟨k,hk,rfl,HF,hX,hB⟩:=hrel;by_cases hlt:k<n
  ·obtain⟨x,hx⟩:∃x,ids[k]?=some x:=⟨_,List.getElem?_eq_getElem (by rw[<-HN.out];exact hlt)⟩;have x32:x.length=32:=h32 x (List.mem_of_getElem? hx);have hI:=HI.out _ hB;rw[HN.out]at hI;obtain⟨g2,c2,e2,hr⟩:=FH hI h32 hx;obtain rfl:g=g2:=by cases e2;rfl
   clear e2 hI;have th:=il x32
   have hd:ids.drop k=x::ids.drop (k+1):=by
    rw[List.drop_eq_getElem_cons (by rw[<-HN.out];exact hlt)];rw[List.getElem?_eq_getElem (by rw[<-HN.out];exact hlt)]at hx;cases hx;rfl
   have hF:=HF.out;rw[hd,List.findIdx?_cons]at hF;have HR:=h_ hr;clear hr hx hd;cases he:(x==id)
   ·have qn:=r_ x id x32 i32 false he;rw[he]at hF
    have Tz:Hid (ids.findIdx? (· == id)=((ids.drop (k+1)).findIdx? (· == id)).map (· + (k+1))):=h_ (by
     rw[hF,if_neg Bool.false_ne_true,Option.map_map];exact congrArg (fun f=>Option.map f _) (funext fun i=>by show i+1+k=i+(k+1);omega))
    clear hF he;have ht:=HR.out;have sx:(ae x).size=32:=(by rw[jH];exact x32);have ox:=j6 x
    go_upto_region 4 with(first
     | (with_reducible refine gu rfl _ rfl g (k*32) rfl x ht th ?_)
     | (with_reducible refine jD rfl _ _ rfl _ (ae x) (ae x) rfl rfl rfl sx ox h0 (c_ wr _) rfl ?_))
    generalize hw4:World.setRow _ _ _=v3;have hb2:Bl wr v3:=cU hw4;have hE:Has v3 wr.heap.size (ae x) 28:=(by rw[<-hw4];exact Has.row (c_ wr _) _);replace hX:=cg hb2 hX hX.lt;replace hB:=ah hB hb2;clear hw4 hb2 ht;obtain⟨bE,TO⟩:∃b,b=wr.heap.size:=⟨_,rfl⟩;rw[<-TO]at hE|-;clear TO
    go_wp2_with (first
     | (with_reducible refine ku rfl _ rfl _ rfl _ hE sx ?_)
     | (with_reducible refine ku rfl _ rfl _ rfl _ hX s1 ?_))
    go_roundw
    case rel=>exact⟨k+1,by omega,rfl,Tz,hX,hB⟩
    case measure=>simp[intOf];omega
   ·have qn:=r_ x id x32 i32 true he
    have Z0:z=(k:Int):=by
     rw[<-HZ.out];unfold idx;rw[hF,he];simp
    subst Z0;clear hF he;have ht:=HR.out;have sx:(ae x).size=32:=(by rw[jH];exact x32);have ox:=j6 x
    go_upto_region 4 with(first
     | (with_reducible refine gu rfl _ rfl g (k*32) rfl x ht th ?_)
     | (with_reducible refine jD rfl _ _ rfl _ (ae x) (ae x) rfl rfl rfl sx ox h0 (c_ wr _) rfl ?_))
    generalize hw4:World.setRow _ _ _=v3;have hb2:Bl wr v3:=cU hw4;have hE:Has v3 wr.heap.size (ae x) 28:=(by rw[<-hw4];exact Has.row (c_ wr _) _);replace hX:=cg hb2 hX hX.lt;replace hB:=ah hB hb2;clear hw4 hb2 ht;obtain⟨bE,TO⟩:∃b,b=wr.heap.size:=⟨_,rfl⟩;rw[<-TO]at hE|-;clear TO
    go_wp2_with (first
     | (with_reducible refine ku rfl _ rfl _ rfl _ hE sx ?_)
     | (with_reducible refine ku rfl _ rfl _ rfl _ hX s1 ?_))
    go_ret;exact⟨rfl,hB⟩
  ·have Z0:z = -1:=by
    rw[<-HZ.out];unfold idx;rw[HF.out,List.drop_eq_nil_of_le (by rw[<-HN.out];omega)];rfl
   subst Z0;go_wp2_with fail
   go_ret;exact⟨rfl,hB⟩
theorem xk(r:Ru)(M:List aq)(id:List UInt8):idx (M.map fun e=>(e.h r.g).id) id=JV (Ar.j7 r.g M id):=by unfold idx JV Ar.j7;rw[List.findIdx?_map];rfl
variable{F:Nat->Prop}{r:Ru}{M:List aq}
theorem ud(h:gC w B F b r M)(hpos:0<M.length)(hl:M.length<=1000)(id:List UInt8)(i32:id.length=32):ak 77 #[af b,.agg (ae id)] w (i_ (JV (Ar.j7 r.g M id))):=by
 obtain⟨_,_,_,p,t,vH,vI,vA,vW,ws,h3,_⟩:=h;have hz:=xk r M id;have hn:M.length=(M.map fun e=>(e.h r.g).id).length:=by rw[List.length_map]
 have h32:=h3.name;have hA:=h3.has;have hI:=h3.TU;have hp:=h3.Su;clear h3;generalize(M.map fun e=>(e.h r.g).id)=ids at*;generalize JV (Ar.j7 r.g M id)=z at*;generalize M.length=n at*;have hl2:n<=4611686018427387904:=Nat.le_trans hl (by decide);exact wR p hp vH vI vA vW r.room b ids n hn hl2 hpos h32 id i32 z hz w hA hI
open Ar (Ok Row)
theorem Rg{ops:Array Oper}{rest:List Oper}{o:Oper}{a:Act}{Q:Exit->Act->World->Prop}(hgd:o.guard=none)(s x:Operand)(ho:o.op=.call { callee:=.builtin .append,args:=#[s,x],argTypes:=#[49,49] })(hty:o.type=49)(base g:Nat)(z:Int)(hs:a.eval s=.slice (aT g) 1 1)(hg:Has w g #[i_ z] 3)(hbg:base<=g)(hbase:base<=w.heap.size)(v:Value)(m:Nat)(l:List Int)(hx:a.eval x=v)(hv:w.ownsRow base 3 1 v m (l.map (Value.int .i64)))(hn:m<=900)(h:∀v' w',w'.ownsRow base 3 1 v' (m+1) ((z::l).map (Value.int .i64))->w.grownBy w' (some g)->wpList Tryz.prog ops Q rest (a.put o.dst v') w'):wpList Tryz.prog ops Q (o::rest) a w:=by
 obtain⟨i,y0,hi,hzz,h1,h2,h3⟩:=se;have hown:w.ownsRow base 3 1 (.slice (aT g) 1 1) 1 [i_ z]:=⟨rfl,.inr ⟨g,1,#[i_ z],rfl,hbg,hg,Nat.le_refl _,by decide,rfl,rfl⟩⟩;obtain⟨hlen,⟨rfl,hm0⟩|⟨g2,c,cur,rfl,q1,q2,q3,q4,q5,q6⟩⟩:=hv
 ·subst hm0;obtain rfl:l=[]:=by simpa using hlen
  have hrun:=run_append_owned_none (P:=Tryz.prog) (w:=w) base 49 49 3 i 1 Tryz.underlying49 hi _ 1 _ hown;refine wpList_plain hgd fun _ hK=>?_
  unfold Oper.wp execOp;simp only[ho,hty,resolve,invoke,builtin,Sem.run_bind,Sem.run_pure,Result.andThen_ok,List.map_toArray,List.map_cons,List.map_nil,hs,hx,hrun];exact hK _ _ (h _ w hown ⟨rfl,rfl,rfl,Nat.le_refl _,fun _ _ _=>rfl⟩)
 refine wpList_append_own_at (P:=Tryz.prog) w hgd s x 49 ho base 3 i y0 1 8 Tryz.underlying49 hi hzz h1 h2 h3 (by decide) _ 1 _ hs hown ⟨g2,0,none⟩ m c (l.map (Value.int .i64)) hx hlen (fun j u hj=>?_) (fun u hu=>?_) (by unfold maxLen;omega) (by omega) hbase (fun v' w' g1 g3 _ _=>?_);rw[Addr.add_lit,Nat.zero_add,Has.cell (show Has w g2 cur 3 from q2),<-Array.getElem?_toList];rw[<-q6,List.getElem?_take]at hj;split at hj;exact hj;cases hj;obtain⟨t,_,rfl⟩:=List.mem_map.1 hu;rfl;rw[Nat.add_comm]at g1;exact h v' w' g1 g3
theorem wC(h:Has w b (iz p vH vI vA vW room) 72)(hp:p.ok):w.cell? ⟨b,85,none⟩=some vA:=by rw[Has.cell h 85];unfold iz Ce;rw[List.getElem?_toArray,List.getElem?_append_right (by rw[jz hp];omega),jz hp];rfl
variable{l:List Int}
theorem mH(h:w.ownsRow base 3 1 v n (l.map (Value.int .i64))){k:Nat}{x:Int}(hx:l[k]?=some x):∃g c,v=.slice (aT g) n c/\w.cell? ⟨g,k,none⟩=some (i_ x):=by
 have hk:=(List.getElem?_eq_some_iff.1 hx).1;obtain⟨hlen,⟨rfl,hm0⟩|⟨g2,c,cur,rfl,q1,q2,q3,q4,q5,q6⟩⟩:=h;rw[List.length_map]at hlen;omega
 ·refine⟨g2,c,rfl,?_⟩;have e:(cur.toList.take (n*1))[k]?=some (Value.int .i64 x):=by rw[q6,List.getElem?_map,hx];rfl
  rw[Has.cell (show Has w g2 cur 3 from q2),<-Array.getElem?_toList];rw[List.getElem?_take]at e;split at e;exact e;cases e
def Left(M:List aq)(L l:List Int)(k:Int)(m:Nat):Prop:=∃L0,Row M k L0/\L0++l=L/\l.length=m
theorem Left.done{L:List Int}{k:Int}{m:Nat}(h:Left M L l k m)(hk:k = -1):l=L/\m=L.length:=by
 obtain⟨L0,h1,h2,h3⟩:=h;rcases h1.inv with⟨_,rfl⟩|⟨j,_,_,h4,_⟩
 obtain rfl:l=L:=h2;exact⟨rfl,h3.symm⟩;omega
theorem Left.next(hM:Ok r M){L l:List Int}{k:Int}{m:Nat}(h:Left M L l k m)(hk:k ≠ -1):∃(j:Nat)(d:aq),k=(j:Int)/\M[j]?=some d/\-1<=d.up/\d.up<(j:Int)/\m+1<=L.length/\Left M L ((j:Int)::l) d.up (m+1):=by
 obtain⟨L0,h1,h2,h3⟩:=h;rcases h1.inv with⟨h4,_⟩|⟨j,d,L',rfl,h4,h5,rfl⟩
 exact absurd h4 hk
 ·have hu:-1<=d.up/\d.up<(j:Int):=by
   rcases hM.ahead h4 with⟨rfl,rfl⟩|⟨i,a,h,q1,_,q3,_⟩
   simp[Ar.aB];omega
  refine⟨j,d,rfl,h4,hu.1,hu.2,?_,L',h5,by rw[<-h2,List.append_assoc];rfl,by rw[List.length_cons,h3]⟩;rw[<-h2,List.length_append,List.length_append,List.length_singleton];omega
theorem El(p:NN.Pr)(hp:p.ok)(vH vI vA vW:Value)(room b:Nat)(r:Ru)(M:List aq)(hM:Ok r M)(hl:M.length<=900)(i:Nat)(e:aq)(he:M[i]?=some e)(L:List Int)(hL:Row M (i:Int) L)(n:Nat)(hn:n=M.length)(w:World)(hA:Has w b (iz p vH vI vA vW room) 72)(hI:w.ownsRow 0 3 1 vA n ((M.map aq.up).map (Value.int .i64))):aG 66 #[af b,i_ i] w fun r w'=>∃(v:Value),r=.returned v/\w'.ownsRow w.heap.size 3 1 v L.length (L.map (Value.int .i64))/\Bl w w':=by
 obtain⟨g,c,rfl,hr0⟩:=mH hI (k:=i) (x:=e.up) (by rw[List.getElem?_map,he];rfl);clear hr0;have c85:=wC hA hp;have HI:=h_ fun(w':World)(hb:Bl w w')=>ax hI (Kp.of (F:=fun _=>False) hb) fun _ _ hf=>hf
 have HC:=h_ fun(w':World)(hb:Bl w w')=>(World.cell?_of_block (hb.block b (block_lt_of_cell c85))).trans c85
 have HN:=h_ hn;have HS:Hid (Left M L [] (i:Int) 0):=h_ ⟨L,hL,List.append_nil _,rfl⟩
 have hL9:L.length<=900:=by
  have:=hL.len hM he;have:=(hM.chain i e he).1;have:=(List.getElem?_eq_some_iff.1 he).1;omega
 have HL:=h_ hL9;clear hn hI hA c85 he hL9 hL;go_enter Tryz.func66,Tryz.ntmps66;go_wp2_with fail
 go_loopw [5,6] (fun v i wr=>∃(cv:Value)(k:Int)(l:List Int)(m:Nat),v=cv/\i=i_ k/\Hid (Left M L l k m/\-1<=k)/\Hid (wr.ownsRow w.heap.size 3 1 cv m (l.map (Value.int .i64)))/\Bl w wr) (fun _ i _=>(intOf i+1).toNat)
 case atStart=>exact⟨_,(i:Int),[],0,rfl,rfl,h_ ⟨HS.out,by omega⟩,h_ ⟨rfl,.inl ⟨rfl,rfl⟩⟩,bf⟩
 case round=>
  obtain⟨cv,k,l,m,rfl,rfl,HK,HV,hB⟩:=hrel;by_cases hk:k = -1
  ·have hV:=HV.out;obtain⟨e1,e2⟩:=HK.out.1.done hk;rw[e1,e2]at hV;subst hk;clear e1 e2;go_wp2_with fail
   go_ret;exact⟨_,rfl,hV,hB⟩
  ·obtain⟨j,d,rfl,hd,l2,l3,l4,l5⟩:=HK.out.1.next hM hk;have hjn:j<n:=by rw[HN.out];exact(List.getElem?_eq_some_iff.1 hd).1
   have VD:m<=900:=by have:=HL.out;omega
   have hk0:(0:Int)<=(j:Int):=by omega
   have hmk:=fun w=>nK w (j:Int)
   have SL:Hid (Left M L ((j:Int)::l) d.up (m+1)/\-1<=d.up):=h_ ⟨l5,l2⟩;have HM:Hid ((intOf (i_ d.up)+1).toNat<(intOf (i_ j)+1).toNat):=h_ (by simp[intOf];omega);have HD:Hid ((M.map aq.up)[j]?=some d.up):=h_ (by rw[List.getElem?_map,hd];rfl);have XR:=h_ VD;clear hk l2 l3 l4 l5 hd VD;generalize d.up=z at*;have hb1:Bl wr (wr.alloc (.cells #[i_ j] 3)):=aY;have hg1:Has (wr.alloc (.cells #[i_ j] 3)) wr.heap.size #[i_ j] 3:=Has.new _ _;have hV1:=ax HV.out (Kp.of (F:=fun _=>False) hb1) fun _ _ hf=>hf
   have hs1:=hB.size;have hs2:=Nat.le_trans hs1 hb1.size;go_upto_region 4 with((refine Rg rfl _ _ rfl rfl w.heap.size wr.heap.size (j:Int) rfl hg1 hs1 hs2 _ m l rfl hV1 XR.out ?_);intro v' w2 hown hgr)
   have hB2:Bl w w2:=(ah hB hb1).trans (qm hgr hs1 hs2);have c1:=HC.out _ hB2;obtain⟨g2,c2,e2,hr⟩:=mH (HI.out _ hB2) HD.out;obtain rfl:g=g2:=by cases e2;rfl
   clear e2 hb1 hg1 hV1 hs1 hs2 hgr hmk;have HO:=h_ hown;clear hown;go_wp2_with fail
   go_roundw
   case rel=>exact⟨_,z,(j:Int)::l,m+1,rfl,rfl,SL,HO,hB2⟩
   case measure=>exact HM.out
theorem ER(h:gC w B F b r M)(hM:Ok r M)(hl:M.length<=900)(i:Nat)(e:aq)(he:M[i]?=some e)(L:List Int)(hL:Row M (i:Int) L):aG 66 #[af b,i_ i] w fun r w'=>∃(v:Value),r=.returned v/\w'.ownsRow w.heap.size 3 1 v L.length (L.map (Value.int .i64))/\Bl w w':=by obtain⟨_,_,_,p,t,vH,vI,vA,vW,ws,h3,_⟩:=h;have hA:=h3.has;have hI:=h3.TH;have hp:=h3.Su;clear h3;rw[List.length_map]at hI;exact El p hp vH vI vA vW r.room b r M hM hl i e he L hL M.length rfl w hA hI
end An
namespace An
open Go.RowKit Mem Sc NN.Si
open Ar (aq Ru aB Ok)
variable{w:World}{b:Nat}
theorem pq{p:NN.Pr}{vH vI vA vW:Value}{room:Nat}(h:Has w b (iz p vH vI vA vW room) 72)(hp:p.ok):w.cell? ⟨b,83,none⟩=some vH:=by rw[Has.cell h 83];unfold iz Ce;rw[List.getElem?_toArray,List.getElem?_append_right (by rw[jz hp];omega),jz hp];rfl
theorem qV{v:Value}{hs:List Hd}(h:w.ownsRow 0 30 68 v hs.length (hs.flatMap bq))(hok:∀x∈hs,x.ok){k:Nat}{x:Hd}(hx:hs[k]?=some x):∃g c,v=.slice (aT g) hs.length c/\w.rangeAt g (k*68) (bq x):=by obtain⟨A,C,e,hA⟩:=qZ bq 68 hs (fun l hl=>er (hok l hl)) k x hx;rw[e]at h;have:=(List.getElem?_eq_some_iff.1 hx).1;obtain⟨g,c,e1,e2⟩:=lB h (by omega);rw[hA]at e2;exact⟨g,c,e1,e2⟩
def oG(g:Hd)(M:List aq)(k:Int)(hs:List Hd):Prop:=(k = -1/\hs=[])\/∃(j:Nat)(d:aq),k=(j:Int)/\M[j]?=some d/\hs=g::d.hs
variable{r:Ru}{M:List aq}
theorem FV(hM:Ok r M){j:Nat}{d:aq}(hd:M[j]?=some d):∃q,oG r.g M d.up q/\r.g::d.hs=q++[d.h r.g]/\-1<=d.up/\d.up<(j:Int):=by
 by_cases h0:0<j;obtain⟨i,d',h,now,h1,h2,rfl,_⟩:=hM.up j d h0 hd;exact⟨r.g::d'.hs,.inr ⟨i,d',rfl,h2,rfl⟩,by rw[Ar.iA];simp,by show -1<=((i:Nat):Int);omega,by show((i:Nat):Int)<(j:Int);omega⟩
 ·obtain rfl:j=0:=by omega
  rw[hM.zero]at hd;cases hd;exact⟨[],.inl ⟨rfl,rfl⟩,rfl,by simp[aB],by simp[aB]⟩
theorem M7(p:NN.Pr)(hp:p.ok)(vH vI vA vW:Value)(room b:Nat)(r:Ru)(M:List aq)(hM:Ok r M)(hok:∀x∈M.map (aq.h r.g),x.ok)(hl:M.length<=900)(i:Nat)(e:aq)(he:M[i]?=some e)(n:Nat)(hn:n=M.length)(w:World)(hA:Has w b (iz p vH vI vA vW room) 72)(hH:w.ownsRow 0 30 68 vH (M.map (aq.h r.g)).length ((M.map (aq.h r.g)).flatMap bq))(hI:w.ownsRow 0 3 1 vA n ((M.map aq.up).map (Value.int .i64))):aG 79 #[af b,i_ i] w fun r' w'=>∃ad c,r'=.returned (.slice ad (e.hs.length+1) c)/\aO w' ad (r.g::e.hs)/\e.hs.length+1<=c/\Below w.heap.size w w':=by
 obtain⟨g,c,rfl,hr0⟩:=mH hI (k:=i) (x:=e.up) (by rw[List.getElem?_map,he];rfl);obtain⟨gH,cH,rfl,hr1⟩:=qV hH hok (k:=i) (x:=e.h r.g) (by rw[List.getElem?_map,he];rfl);clear hr0 hr1;rw[List.length_map,<-hn]at hA;have c85:=wC hA hp;have UZ:=pq hA hp;have HI:=h_ fun(w':World)(hb:Below w.heap.size w w')=>ax hI (Kp.of (F:=fun _=>False) hb) fun _ _ hf=>hf
 have HH:=h_ fun(w':World)(hb:Below w.heap.size w w')=>ax hH (Kp.of (F:=fun _=>False) hb) fun _ _ hf=>hf
 have HC:=h_ fun(w':World)(hb:Below w.heap.size w w')=>(World.cell?_of_block (hb.block b (block_lt_of_cell c85))).trans c85
 have HD:=h_ fun(w':World)(hb:Below w.heap.size w w')=>(World.cell?_of_block (hb.block b (block_lt_of_cell UZ))).trans UZ
 have HN:=h_ hn;have HS:Hid (oG r.g M (i:Int) (r.g::e.hs)):=h_ (.inr ⟨i,e,rfl,he,rfl⟩)
 have hi9:(r.g::e.hs).length<=900:=by
  have:=(hM.chain i e he).1;have:=(List.getElem?_eq_some_iff.1 he).1;simp;omega
 have HL:=h_ hi9;rw[show e.hs.length+1=(r.g::e.hs).length by simp];generalize r.g::e.hs=tot at*;clear hn hI hH hA c85 UZ he hi9;go_enter Tryz.func79,Tryz.ntmps79;go_wp2_with fail
 go_loopw [5,6] (fun v i wr=>∃(ad:Option Addr)(m c:Nat)(k:Int)(z q:List Hd),v=.slice ad m c/\i=i_ k/\Hid (oG r.g M k q/\-1<=k/\z.length=m/\q++z=tot/\(ad=none->m=0/\c=0)/\m<=c)/\aO wr ad z/\Below w.heap.size w wr) (fun _ i _=>(intOf i+1).toNat)
 case atStart=>exact⟨none,0,0,(i:Int),[],tot,rfl,rfl,h_ ⟨HS.out,by omega,rfl,by simp,fun _=>⟨rfl,rfl⟩,Nat.le_refl _⟩,fun h=>absurd h (by simp),bf⟩
 case round=>
  obtain⟨ad,m,cc,k,z,q,rfl,rfl,HK,XQ,hB⟩:=hrel;rcases HK.out with⟨⟨rfl,rfl⟩|⟨j,d,hk,hd,rfl⟩,hk1,hlm,htot,hnil,hmc⟩
  ·have e1:z=tot:=by simpa using htot
   have e2:m=tot.length:=by rw[<-hlm,e1]
   have HE:=h_ (And.intro e1 (And.intro e2 hmc));clear hk1 hlm htot hnil e1 e2 hmc;go_wp2_with fail
   go_ret;exact⟨ad,cc,by rw[<-HE.out.2.1];rfl,by rw[<-HE.out.1];exact XQ,by rw[<-HE.out.2.1];exact HE.out.2.2,hB⟩
  ·subst hk;obtain⟨q2,l1,l2,l3,l4⟩:=FV hM hd;have hjn:j<n:=by rw[HN.out];exact(List.getElem?_eq_some_iff.1 hd).1
   have hk0:(0:Int)<=(j:Int):=by omega
   have hdj:(M.map (aq.h r.g))[j]?=some (d.h r.g):=by rw[List.getElem?_map,hd];rfl
   have Z4:(d.h r.g).ok:=hok _ (List.mem_of_getElem? hdj);have SL:Hid (oG r.g M d.up q2/\-1<=d.up/\(d.h r.g::z).length=m+1/\q2++(d.h r.g::z)=tot):=h_ ⟨l1,l3,by simp[hlm],by rw[<-htot,l2];simp⟩;have HM:Hid ((intOf (i_ d.up)+1).toNat<(intOf (i_ j)+1).toNat):=h_ (by simp[intOf];omega);have HU:Hid ((M.map aq.up)[j]?=some d.up):=h_ (by rw[List.getElem?_map,hd];rfl)
   have VD:m<=900:=by
    have h1:=HL.out;rw[<-htot]at h1;simp at h1;omega
   have XR:=h_ (And.intro VD (And.intro hlm hnil));have UZ:=HD.out _ hB;obtain⟨g2,c2,e2,rh⟩:=qV (HH.out _ hB) hok hdj;obtain rfl:gH=g2:=by cases e2;rfl
   clear e2 hk1 hlm htot l1 l2 l3 l4 hd VD hdj hnil hmc;generalize d.up=u at*;generalize d.h r.g=y at*;have zh:=er Z4;have za:=fX Z4;have hbW:Below wr.heap.size wr (wr.alloc (.cells (aD y) 30)):=aY;have hgW:Has (wr.alloc (.cells (aD y) 30)) wr.heap.size (aD y) 30:=Has.new _ _;have hHW:=XQ.below hbW;have hbg:wr.heap.size<=(wr.alloc (.cells (aD y) 30)).heap.size:=hbW.size
   go_upto_region 4 with(first
    | (with_reducible refine ja rfl _ rfl gH (j*68) rfl y rh zh ?_)
    | (with_reducible refine Ka rfl _ rfl (aD y) rfl za ?_)
    | ((with_reducible refine Rl rfl _ _ rfl rfl wr.heap.size wr.heap.size y Z4 rfl hgW (Nat.le_refl _) hbg ad m cc z rfl XR.out.2.1 XR.out.2.2 hHW XR.out.1 ?_);intro XP c' w2 Ym hne hg' XS))
   have hb2:Below wr.heap.size wr w2:=(hbW).grown hg' hbW.size (fun q hq=>by have:wr.heap.size=q:=Option.some.inj hq;omega);have hB2:=ah hB hb2;have c1:=HC.out _ hB2;obtain⟨g3,c3,e3,hr⟩:=mH (HI.out _ hB2) HU.out;obtain rfl:g=g3:=by cases e3;rfl
   clear e3 hbW hgW hHW hbg hg' rh UZ XQ hb2;have SG:=h_ (And.intro hne XS);clear hne XS;go_wp2_with fail
   go_roundw
   case rel=>exact⟨XP,m+1,c',u,y::z,q2,rfl,rfl,h_ ⟨SL.out.1,SL.out.2.1,SL.out.2.2.1,SL.out.2.2.2,fun e=>absurd e SG.out.1,SG.out.2⟩,Ym,hB2⟩
   case measure=>exact HM.out
theorem H'{B:Nat}{F:Nat->Prop}(h:gC w B F b r M)(hM:Ok r M)(hl:M.length<=900)(i:Nat)(e:aq)(he:M[i]?=some e):aG 79 #[af b,i_ i] w fun r' w'=>∃ad c,r'=.returned (.slice ad (e.hs.length+1) c)/\aO w' ad (r.g::e.hs)/\e.hs.length+1<=c/\Bl w w':=by obtain⟨_,_,_,p,t,vH,vI,vA,vW,ws,h3,_⟩:=h;have hA:=h3.has;have hI:=h3.TH;have hH:=h3.TG;have hp:=h3.Su;have hg:=h3.bZ;clear h3;rw[List.length_map]at hI;exact M7 p hp vH vI vA vW r.room b r M hM hg hl i e he M.length rfl w hA hH hI
end An
namespace An
open Go.RowKit Mem Sc NN.Si
theorem G0(b:Nat)(h:Hd)(ho:h.ok)(now:Int)(w:World)(KG:aQ w 73 #[.agg (aD h)] (.bool false)):Calls Tryz.prog 40 #[.pointer (some ⟨b,0,none⟩),.agg (aD h),.int .i64 now] w fun r w'=>r=.returned (.tuple #[.int .i64 (-1),.int .i64 (1),.int .i64 (8)])/\Below w.heap.size w w':=by
 have za:=fX ho;go_enter Tryz.func40,Tryz.ntmps40;go_upto_region 1 with fail
 generalize hw0:World.alloc _ _=v0;have hB:Below w.heap.size w v0:=dd hw0;have hH:aH v0 w.heap.size h:=by rw[<-hw0];exact Has.new _ _
 clear hw0;obtain⟨bH,R'⟩:∃x,x=w.heap.size:=⟨_,rfl⟩;have UR:=h_ R';rw[<-R']at hH|-;clear R';go_wp2_with (first|fail|(with_reducible refine cP rfl _ rfl _ rfl hH za ?_))
 refine au (KG.out _ hB) fun v1 hb=>?_;replace hH:=hH.on hb;replace hB:=ah hB hb;clear hb;go_wp2_with fail
 go_ret3
 exact⟨rfl,hB⟩
theorem Ny(b:Nat)(h:Hd)(ho:h.ok)(now:Int)(w:World)(KG:aQ w 73 #[.agg (aD h)] (.bool true))(id:List UInt8)(KI:aQ w 75 #[.agg (aD h)] (.agg (ae id)))(j:Nat)(KF:aQ w 77 #[.pointer (some ⟨b,0,none⟩),.agg (ae id)] (.int .i64 (j:Int))):Calls Tryz.prog 40 #[.pointer (some ⟨b,0,none⟩),.agg (aD h),.int .i64 now] w fun r w'=>r=.returned (.tuple #[.int .i64 ((j:Int)),.int .i64 (0),.int .i64 (0)])/\Below w.heap.size w w':=by
 have hj0:(0:Int)<=(j:Int):=by omega
 have za:=fX ho;go_enter Tryz.func40,Tryz.ntmps40;go_upto_region 1 with fail
 generalize hw0:World.alloc _ _=v0;have hB:Below w.heap.size w v0:=dd hw0;have hH:aH v0 w.heap.size h:=by rw[<-hw0];exact Has.new _ _
 clear hw0;obtain⟨bH,R'⟩:∃x,x=w.heap.size:=⟨_,rfl⟩;have UR:=h_ R';rw[<-R']at hH|-;clear R';go_wp2_with (first|fail|(with_reducible refine cP rfl _ rfl _ rfl hH za ?_))
 refine au (KG.out _ hB) fun v1 hb=>?_;replace hH:=hH.on hb;replace hB:=ah hB hb;clear hb;go_wp2_with (first|fail|(with_reducible refine cP rfl _ rfl _ rfl hH za ?_))
 refine au (KI.out _ hB) fun v2 hb=>?_;replace hH:=hH.on hb;replace hB:=ah hB hb;clear hb;go_wp2_with (first|fail|(with_reducible refine cP rfl _ rfl _ rfl hH za ?_))
 refine au (KF.out _ hB) fun v3 hb=>?_;replace hH:=hH.on hb;replace hB:=ah hB hb;clear hb;go_wp2_with fail
 go_ret3
 exact⟨rfl,hB⟩
theorem O4(b:Nat)(h:Hd)(ho:h.ok)(now:Int)(w:World)(KG:aQ w 73 #[.agg (aD h)] (.bool true))(id:List UInt8)(KI:aQ w 75 #[.agg (aD h)] (.agg (ae id)))(KF:aQ w 77 #[.pointer (some ⟨b,0,none⟩),.agg (ae id)] (.int .i64 (-1)))(KP:aQ w 77 #[.pointer (some ⟨b,0,none⟩),.agg (ae h.prev)] (.int .i64 (-1))):Calls Tryz.prog 40 #[.pointer (some ⟨b,0,none⟩),.agg (aD h),.int .i64 now] w fun r w'=>r=.returned (.tuple #[.int .i64 (-1),.int .i64 (2),.int .i64 (5)])/\Below w.heap.size w w':=by
 have za:=fX ho;go_enter Tryz.func40,Tryz.ntmps40;go_upto_region 1 with fail
 generalize hw0:World.alloc _ _=v0;have hB:Below w.heap.size w v0:=dd hw0;have hH:aH v0 w.heap.size h:=by rw[<-hw0];exact Has.new _ _
 clear hw0;obtain⟨bH,R'⟩:∃x,x=w.heap.size:=⟨_,rfl⟩;have UR:=h_ R';rw[<-R']at hH|-;clear R';go_wp2_with (first|fail|(with_reducible refine cP rfl _ rfl _ rfl hH za ?_))
 refine au (KG.out _ hB) fun v1 hb=>?_;replace hH:=hH.on hb;replace hB:=ah hB hb;clear hb;go_wp2_with (first|fail|(with_reducible refine cP rfl _ rfl _ rfl hH za ?_))
 refine au (KI.out _ hB) fun v2 hb=>?_;replace hH:=hH.on hb;replace hB:=ah hB hb;clear hb;go_wp2_with (first|fail|(with_reducible refine cP rfl _ rfl _ rfl hH za ?_))
 refine au (KF.out _ hB) fun v3 hb=>?_;replace hH:=hH.on hb;replace hB:=ah hB hb;clear hb;have rP:v3.rangeAt bH 1 (Lib.byteCells h.prev):=vm (aH.range hH);have sP:(Lib.byteCells h.prev).length=32:=by rw[Lib.byteCells_length,ho.1]
 go_wp2_with (first|fail|(with_reducible refine gu rfl _ rfl bH 1 rfl h.prev rP sP ?_))
 refine au (KP.out _ hB) fun v4 hb=>?_;replace hH:=hH.on hb;replace hB:=ah hB hb;clear hb;go_wp2_with fail
 go_ret3
 exact⟨rfl,hB⟩
open Ar (aq Ok Ru aB)
section
variable{w:World}{b:Nat}{p:NN.Pr}{vH vI vA vW:Value}{room:Nat}
theorem qe(hp:p.ok)(j:Nat):(iz p vH vI vA vW room)[83+j]?=([vH,vI,vA,vW,i_ room]:List Value)[j]?:=by unfold iz Ce;rw[List.getElem?_toArray,List.getElem?_append_right (by rw[jz hp];omega),jz hp,show 83+j-83=j by omega]
theorem xa(h:Has w b (iz p vH vI vA vW room) 72)(hp:p.ok):w.cell? ⟨b,86,none⟩=some vW:=(Has.cell h 86).trans (qe hp 3)
theorem NS(h:Has w b (iz p vH vI vA vW room) 72)(hp:p.ok):w.cell? ⟨b,87,none⟩=some (i_ room):=(Has.cell h 87).trans (qe hp 4)
theorem Gl(h:Has w b (iz p vH vI vA vW room) 72):w.rangeAt b 0 (NN.dR p):=by have:=gd (A:=[]) (cs:=NN.dR p) (C:=[vH,vI,vA,vW,i_ room]) (o:=0) (w:=w) (b:=b) (t:=72) h rfl;exact this
theorem kX(h:Has w b (iz p vH vI vA vW room) 72)(hp:p.ok)(v':Value)(k:Nat){cs:List Value}(hk:([vH,vI,vA,vW,i_ room]:List Value).set k v'=cs):Has (w.setCell ⟨b,83+k,none⟩ v') b (NN.dR p++cs).toArray 72:=by
 have:=Has.set (i:=83+k) h v'
 have e:(iz p vH vI vA vW room).setIfInBounds (83+k) v'=(NN.dR p++cs).toArray:=by
  unfold iz Ce;rw[List.setIfInBounds_toArray,List.set_append_right _ _ (by rw[jz hp];omega),jz hp,show 83+k-83=k by omega,hk]
 rwa[e]at this
theorem uG(w:World)(g:Nat):(Instr.fieldAt 72 (af g) 0).run Tryz.prog w=.ok (af g) w:=by kernel_rfl
theorem oJ(w:World)(g:Nat):(Instr.fieldAt 72 (af g) 1).run Tryz.prog w=.ok (.pointer (some ⟨g,83,none⟩)) w:=by kernel_rfl
theorem oc(w:World)(g:Nat):(Instr.fieldAt 72 (af g) 2).run Tryz.prog w=.ok (.pointer (some ⟨g,84,none⟩)) w:=by kernel_rfl
theorem kR(w:World)(g:Nat):(Instr.fieldAt 72 (af g) 4).run Tryz.prog w=.ok (.pointer (some ⟨g,86,none⟩)) w:=by kernel_rfl
theorem NT(w:World)(g j n c:Nat)(hj:j<n):(Instr.indexAt 70 (.slice (aT g) n c) (i_ j)).run Tryz.prog w=.ok (.pointer (some ⟨g,j*4,none⟩)) w:=by go_simp
end
section
variable{ρ:Operand->Value}{o:Oper}{w w':World}
variable{T:TypeId}{x:Operand}{p:Addr}{u:Value}
theorem dj(ho:o.op=.load T x)(hx:ρ x=.pointer (some p))(hl:(loadVar T p).run Tryz.prog w=.ok u w):(execOp ρ o).run Tryz.prog w=.ok (.value u) w:=by unfold execOp;simp only[ho,hx,Instr.loadAt,Instr.sureAddr,Sem.run_bind,Sem.run_pure,Result.andThen_ok,hl]
theorem ml{y:Operand}(ho:o.op=.store T x y)(hx:ρ x=.pointer (some p))(hy:ρ y=u)(hl:(storeVar T p u).run Tryz.prog w=.ok () w'):(execOp ρ o).run Tryz.prog w=.ok .skip w':=by unfold execOp;simp only[ho,hx,hy,Instr.storeAt,Instr.sureAddr,Sem.run_bind,Sem.run_pure,Result.andThen_ok,hl]
variable{a:Option Addr}{n c:Nat}
theorem Dh(h:w.cell? p=some (.slice a n c)):(loadVar 68 p).run Tryz.prog w=.ok (.slice a n c) w:=by go_simp
theorem zX(h:w.cell? p=some (.slice a n c)):(loadVar 69 p).run Tryz.prog w=.ok (.slice a n c) w:=by go_simp
theorem xU(h:w.cell? p=some (.slice a n c)):(loadVar 70 p).run Tryz.prog w=.ok (.slice a n c) w:=by go_simp
theorem BL(hf:w.frozen? p=false)(hc:w.cell? p=some u):(storeVar 68 p (.slice a n c)).run Tryz.prog w=.ok () (w.setCell p (.slice a n c)):=by go_simp
theorem AI(hf:w.frozen? p=false)(hc:w.cell? p=some u):(storeVar 69 p (.slice a n c)).run Tryz.prog w=.ok () (w.setCell p (.slice a n c)):=by go_simp
theorem tv(hf:w.frozen? p=false)(hc:w.cell? p=some u):(storeVar 70 p (.slice a n c)).run Tryz.prog w=.ok () (w.setCell p (.slice a n c)):=by go_simp
theorem we{Ts:TypeId}{size bytes:Nat}(hu:Tryz.prog.underlying Ts=some (.slice T))(Z5:∃i z,Tryz.prog.info? T=some i/\i.zero=some z/\i.size=size/\i.bytes=bytes/\z.cells.size=size)(h4:1001*bytes<=140737488355328)(h5:0<size){x y:Operand}{v:Value}{n g:Nat}{xs:List Value}{cs:Array Value}(hcs:cs.size=size)(hone:∀u∈cs.toList,u.oneCell'=true)(hx:ρ x=v)(hown:w.ownsRow 0 T size v n xs)(hy:ρ y=.slice (aT g) 1 1)(hg:Has w g cs T)(hn:n<=1000):∃v' w',(∀o:Oper,o.op=.call { callee:=.builtin .append,args:=#[x,y],argTypes:=#[Ts,Ts] }->o.type=Ts->(execOp ρ o).run Tryz.prog w=.ok (.value v') w')/\w'.ownsRow 0 T size v' (n+1) (xs++cs.toList)/\w.grownBy w' v.ownBlock/\(v'.ownBlock=v.ownBlock\/v'.ownBlock=some w.heap.size):=by
 obtain⟨i,z,hi,hz,h1,h2,h3⟩:=Z5
 obtain⟨v',w',hr,g1,g2,_,g4⟩:=run_append_own_at (P:=Tryz.prog) w 0 Ts Ts T i z size bytes hu hi hz h1 h2 h3 h5 v n xs hown ⟨g,0,none⟩ 1 1 cs.toList (by simp[hcs]) (fun j u hj=>by
  rw[Addr.add_lit,Nat.zero_add,hg.cell j,<-Array.getElem?_toList];exact hj) hone (by unfold maxLen;omega) (Nat.le_trans (Nat.mul_le_mul_right _ (by omega)) h4) (Nat.zero_le _)
 refine⟨v',w',fun o ho hty=>?_,g1,g2,g4⟩;unfold execOp;simp only[ho,hty,resolve,invoke,builtin,Sem.run_bind,Sem.run_pure,Result.andThen_ok,List.map_toArray,List.map_cons,List.map_nil,hx,hy,hr]
end
theorem iH{w:World}{base:Nat}{T:TypeId}{size:Nat}{v:Value}{n:Nat}{xs:List Value}(h:w.ownsRow base T size v n xs)(hn:0<n):∃g c,v=.slice (aT g) n c:=by
 rcases h.2 with⟨_,h0⟩|⟨g,c,cur,rfl,_⟩
 omega;exact⟨g,c,rfl⟩
structure iL (kb ka ks sb sa B:Nat) (T TA:TypeId) (size:Nat) (E:Array Value->Prop) (v:Value) (n:Nat) (xs:List Value) (b:Nat) (A:Value->Array Value) (l:Array Bool) (a:Act) (w:World):Prop where
 bu:l.getD kb false=true->l.getD ka false=false->∃g cs,E cs/\a.eval (.tmp sb)=.slice (aT g) 1 1/\Has w g cs T
 ro:l.getD ka false=false->w.ownsRow 0 T size v n xs
 ap:l.getD ka false=true->l.getD ks false=false->∃v' cs,E cs/\a.eval (.tmp sa)=v'/\w.ownsRow 0 T size v' (n+1) (xs++cs.toList)/\(v'.ownBlock=v.ownBlock\/∃g,v'.ownBlock=some g/\B<=g)
 ha:l.getD ks false=false->Has w b (A v) TA
 st:l.getD ks false=true->∃v' cs,E cs/\Has w b (A v') TA/\w.ownsRow 0 T size v' (n+1) (xs++cs.toList)/\(v'.ownBlock=v.ownBlock\/∃g,v'.ownBlock=some g/\B<=g)
section
variable{kb ka ks sb sa B:Nat}{T TA:TypeId}{size:Nat}{E:Array Value->Prop}{v:Value}{n:Nat}{xs:List Value}{b:Nat}{A:Value->Array Value}{l:Array Bool}{a:Act}{w w':World}
theorem iL.zero(hl:∀i,l.getD i false=false)(hr:w.ownsRow 0 T size v n xs)(hA:Has w b (A v) TA):iL kb ka ks sb sa B T TA size E v n xs b A l a w:=⟨fun h=>(by rw[hl]at h;cases h),fun _=>hr,fun h=>(by rw[hl]at h;cases h),fun _=>hA,fun h=>(by rw[hl]at h;cases h)⟩
theorem iL.keep(h:iL kb ka ks sb sa B T TA size E v n xs b A l a w){i:Nat}(hi:i<l.size)(h1:i≠kb:=by decide)(h2:i≠ka:=by decide)(h3:i≠ks:=by decide){d:Option Tmp}{u:Value}(hd:d≠some sb:=by decide)(hd2:d≠some sa:=by decide):iL kb ka ks sb sa B T TA size E v n xs b A (l.setIfInBounds i true) (a.put d u) w:=by obtain⟨p1,p2,p3,p4,p5⟩:=h;constructor<;>simp only[gz l i kb hi h1,gz l i ka hi h2,gz l i ks hi h3,Act.eval_put (a:=a) (v:=u) (fun d' hdd e=>hd (by rw[hdd];cases e;rfl):∀d',d=some d'->(Operand.tmp sb)=.tmp d'->False),Act.eval_put (a:=a) (v:=u) (fun d' hdd e=>hd2 (by rw[hdd];cases e;rfl):∀d',d=some d'->(Operand.tmp sa)=.tmp d'->False)]<;>assumption
theorem iL.on(h:iL kb ka ks sb sa B T TA size E v n xs b A l a w)(hb:Bl w w'):iL kb ka ks sb sa B T TA size E v n xs b A l a w':=by have k:=Kp.of (F:=fun _=>False) hb;refine⟨fun h1 h2=>?_,fun h1=>ax (h.ro h1) k (fun _ _ h=>h),fun h1 h2=>?_,fun h1=>k.has (h.ha h1) (fun h=>h),fun h1=>?_⟩;obtain⟨g,cs,e1,e2,e3⟩:=h.bu h1 h2;exact⟨g,cs,e1,e2,k.has e3 (fun h=>h)⟩;obtain⟨v',cs,e1,e2,e3,e4⟩:=h.ap h1 h2;exact⟨v',cs,e1,e2,ax e3 k (fun _ _ h=>h),e4⟩;obtain⟨v',cs,e1,e2,e3,e4⟩:=h.st h1;exact⟨v',cs,e1,k.has e2 (fun h=>h),ax e3 k (fun _ _ h=>h),e4⟩
theorem iL.built(h:iL kb ka ks sb sa B T TA size E v n xs b A l a w)(hi:kb<l.size)(ka0:(l.setIfInBounds kb true).getD ka false=false)(We:(l.setIfInBounds kb true).getD ks false=false)(h1:kb≠ka)(h2:kb≠ks)(hs:sb<a.tmps.size){cs:Array Value}(hE:E cs):iL kb ka ks sb sa B T TA size E v n xs b A (l.setIfInBounds kb true) (a.put (some sb) (.slice (some ⟨w.heap.size,0,none⟩) 1 1)) (w.alloc (.cells cs T)):=by have hb:Bl w (w.alloc (.cells cs T)):=aY;have k:=Kp.of (F:=fun _=>False) hb;exact⟨fun _ _=>⟨_,cs,hE,jQ a sb _ hs,Has.new _ _⟩,fun _=>ax (h.ro (by rw[<-gz l kb ka hi h1];exact ka0)) k (fun _ _ h=>h),fun h=>(by rw[ka0]at h;cases h),fun _=>k.has (h.ha (by rw[<-gz l kb ks hi h2];exact We)) (fun h=>h),fun h=>(by rw[We]at h;cases h)⟩
theorem iL.appended(h:iL kb ka ks sb sa B T TA size E v n xs b A l a w)(hi:ka<l.size)(We:(l.setIfInBounds ka true).getD ks false=false)(h2:ka≠ks)(hs:sa<a.tmps.size){cs:Array Value}(hE:E cs){v':Value}(g1:w'.ownsRow 0 T size v' (n+1) (xs++cs.toList))(g2:w.grownBy w' v.ownBlock)(g3:v'.ownBlock=v.ownBlock\/v'.ownBlock=some w.heap.size)(hB:B<=w.heap.size)(hb:v.ownBlock≠some b):iL kb ka ks sb sa B T TA size E v n xs b A (l.setIfInBounds ka true) (a.put (some sa) v') w':=by
 have ea:(l.setIfInBounds ka true).getD ka false=true:=by rw[gF _ _ _ hi,if_pos rfl]
 have hA:=h.ha (by rw[<-gz l ka ks hi h2];exact We);exact⟨fun _ h=>(by rw[ea]at h;cases h),fun h=>(by rw[ea]at h;cases h),fun _ _=>⟨v',cs,hE,jQ a sa _ hs,g1,g3.elim .inl (fun g=>.inr ⟨_,g,hB⟩)⟩,fun _=>(g2.block b (Has.lt hA) (fun e=>hb e.symm)).trans hA,fun h=>(by rw[We]at h;cases h)⟩
theorem iL.stored(hi:ks<l.size)(h2:ks≠ka)(hka:l.getD ka false=true){cs:Array Value}(hE:E cs){v':Value}(hA:Has w' b (A v') TA)(g1:w'.ownsRow 0 T size v' (n+1) (xs++cs.toList))(g3:v'.ownBlock=v.ownBlock\/∃g,v'.ownBlock=some g/\B<=g):iL kb ka ks sb sa B T TA size E v n xs b A (l.setIfInBounds ks true) (a.put none undef) w':=by
 have ea:(l.setIfInBounds ks true).getD ka false=true:=by rw[gz l ks ka hi h2];exact hka
 have es:(l.setIfInBounds ks true).getD ks false=true:=by rw[gF _ _ _ hi,if_pos rfl]
 exact⟨fun _ h=>(by rw[ea]at h;cases h),fun h=>(by rw[ea]at h;cases h),fun _ h=>(by rw[es]at h;cases h),fun h=>(by rw[es]at h;cases h),fun _=>⟨v',cs,hE,hA,g1,g3⟩⟩
end
def O8(b j:Nat)(p:NN.Pr)(h:Hd)(now y:Int)(m:Nat)(ch:List Hd):Nat->Value->World->Prop
 | 0,u,_=>u=af b
 | 1,u,_=>u=af b
 | 2,u,_=>u=af b
 | 3,u,_=>u=.agg (NN.aE p)
 | 4,u,_=>u=af b
 | 5,u,_=>u=i_ j
 | 6,u,w=>∃ad c,u=.slice ad m c/\aO w ad ch
 | 7,u,_=>u=.agg (aD h)
 | 8,u,_=>u=i_ now
 | 9,u,_=>u=i_ y
 | 10,u,_=>u=i_ y
 | _,_,_=>b=b
theorem K9{b j:Nat}{p:NN.Pr}{h:Hd}{now y:Int}{m:Nat}{ch:List Hd}:∀(i:Nat)(u:Value)(w w':World),Bl w w'->O8 b j p h now y m ch i u w->O8 b j p h now y m ch i u w'
 | 0,_,_,_,_,h|1,_,_,_,_,h|2,_,_,_,_,h|3,_,_,_,_,h|4,_,_,_,_,h|5,_,_,_,_,h|7,_,_,_,_,h|8,_,_,_,_,h|9,_,_,_,_,h|10,_,_,_,_,h=>h
 | 6,_,_,_,hb,⟨ad,c,h1,h2⟩=>⟨ad,c,h1,h2.below hb⟩
 | _+11,_,_,_,_,_=>rfl
structure RY (b gH gI gA gW bH:Nat):Prop where
 nH:b≠gH
 nI:b≠gI
 nA:b≠gA
 nW:b≠gW
 HI:gH≠gI
 HA:gH≠gA
 HW:gH≠gW
 IA:gI≠gA
 IW:gI≠gW
 AW:gA≠gW
 bb:bH≠b
 bh:bH≠gH
 bi:bH≠gI
 ba:bH≠gA
 bw:bH≠gW
def RX(b:Nat)(v:Value)(h:Hd):Nat->Value->Prop
 | 0,u|1,u|2,u|8,u=>u=af b
 | 3,u|9,u=>u=.pointer (some ⟨b,83,none⟩)
 | 4,u=>u=v
 | 5,u=>u=.agg (aD h)
 | _,_=>b=b
def RQ(b:Nat)(v:Value)(h:Hd)(id:List UInt8):Nat->Value->Prop
 | 0,u|1,u|2,u|9,u=>u=af b
 | 3,u|10,u=>u=.pointer (some ⟨b,84,none⟩)
 | 4,u=>u=v
 | 5,u=>u=.agg (aD h)
 | 6,u=>u=.agg (ae id)
 | _,_=>b=b
def RW(b bH gW j z xo xs:Nat)(v:Value)(bits:Int):Nat->Value->Prop
 | 0,u|1,u|2,u|5,u|6,u|18,u=>u=af b
 | 3,u|7,u|19,u=>u=.pointer (some ⟨b,86,none⟩)
 | 4,u|8,u=>u=v
 | 9,u=>u=i_ j
 | 10,u=>u=.pointer (some ⟨gW,j*4,none⟩)
 | 11,u=>u=.agg (NN.aa z)
 | 12,u=>u=.pointer (some ⟨bH,66,none⟩)
 | 13,u=>u=i_ bits
 | 14,u=>pR xo u
 | 15,u=>pR xs u
 | _,_=>b=b
theorem Re{w:World}{ops:Array Oper}{rest:List Oper}{o:Oper}{a:Act}{Q:Exit->Act->World->Prop}(hgd:o.guard=none)(x y:Operand)(ho:o.op=.store 49 x y)(q:Addr)(ad:Option Addr)(n c:Nat)(u:Value)(hx:a.eval x=.pointer (some q))(hy:a.eval y=.slice ad n c)(hf:w.frozen? q=false)(hc:w.cell? q=some u)(hk:wpList Tryz.prog ops Q rest (a.put o.dst undef) (w.setCell q (.slice ad n c))):wpList Tryz.prog ops Q (o::rest) a w:=
 wpList_plain hgd fun _ hK=>by
  unfold Oper.wp;rw[ml ho hx hy (BR hf hc)];exact hK _ _ hk
theorem NC(b:Nat)(p:NN.Pr)(hp:p.ok)(room n gH cH gI cI gA cA gW cW:Nat)(xH xI xW:List Value)(lA:List Int)(h:Hd)(ho:h.ok)(now:Int)(w:World)(hA:Has w b (iz p (.slice (some ⟨gH,0,none⟩) n cH) (.slice (some ⟨gI,0,none⟩) n cI) (.slice (some ⟨gA,0,none⟩) n cA) (.slice (some ⟨gW,0,none⟩) n cW) room) 72)(rH:w.ownsRow 0 30 68 (.slice (some ⟨gH,0,none⟩) n cH) n xH)(rI:w.ownsRow 0 28 32 (.slice (some ⟨gI,0,none⟩) n cI) n xI)(rA:w.ownsRow 0 3 1 (.slice (some ⟨gA,0,none⟩) n cA) n (lA.map (Value.int .i64)))(rW:w.ownsRow 0 26 4 (.slice (some ⟨gW,0,none⟩) n cW) n xW)(TW:n<=900)(j:Nat)(hj:j<n)(z:Nat)(hz:z<NN.Nm.ai)(Z6:Hid (∀w':World,w'.ownsRow 0 26 4 (.slice (some ⟨gW,0,none⟩) n cW) n xW->w'.rangeAt gW (j*4) (NN.aa z).toList))(KG:aQ w 73 #[.agg (aD h)] (.bool true))(id:List UInt8)(i32:id.length=32)(KI:zF 75 #[.agg (aD h)] (.agg (ae id)))(KF:aQ w 77 #[.pointer (some ⟨b,0,none⟩),.agg (ae id)] (.int .i64 (-1)))(KP:aQ w 77 #[.pointer (some ⟨b,0,none⟩),.agg (ae h.prev)] (.int .i64 (j:Int)))(m:Nat)(ch:List Hd)(KC:Hid (∀w',Below w.heap.size w w'->Calls Tryz.prog 79 #[.pointer (some ⟨b,0,none⟩),.int .i64 (j:Int)] w' fun e w''=>∃v,e=.returned v/\(∃ad c,v=.slice ad m c/\aO w'' ad ch)/\Below w'.heap.size w' w''))(y:Int)(KK:Hid (∀w' ad c,Below w.heap.size w w'->aO w' ad ch->Calls Tryz.prog 78 #[.agg (NN.aE p),.slice ad m c,.agg (aD h),.int .i64 now] w' fun e w''=>e=.returned (.int .i64 y)/\Below w'.heap.size w' w''))(xo xs:Nat)(KO:Hid (NN.tQ 76 #[.int .i64 h.bits] xo))(KS:Hid (∀x,x<NN.Nm.ai/\x=xo->NN.tQ 80 #[.agg (NN.aa z),.agg (NN.aa x)] xs))(gy gf:Bool)(t9:decide ((0:Int)<y)=gy)(tf:decide (room<=n)=gf)(Q:Ending->World->Prop)(Wt:Hid (gy=true->∀w',Below w.heap.size w w'->Q (.returned (.tuple #[.int .i64 (-1),.int .i64 y,.int .i64 8])) w'))(HQ2:Hid (gy=false->gf=true->∀w',Below w.heap.size w w'->Q (.returned (.tuple #[.int .i64 (-1),.int .i64 0,.int .i64 6])) w'))(HQ3:Hid (gy=false->gf=false->∀w' vH vI vA vW z',z'<NN.Nm.ai/\z'=xs->Has w' b (iz p vH vI vA vW room) 72->w'.ownsRow 0 30 68 vH (n+1) (xH++bq h)->w'.ownsRow 0 28 32 vI (n+1) (xI++Lib.byteCells id)->w'.ownsRow 0 3 1 vA (n+1) ((lA++[(j:Int)]).map (Value.int .i64))->w'.ownsRow 0 26 4 vW (n+1) (xW++(NN.aa z').toList)->(∀k,vH.ownBlock=some k->k=gH\/w.heap.size<=k)->(∀k,vI.ownBlock=some k->k=gI\/w.heap.size<=k)->(∀k,vA.ownBlock=some k->k=gA\/w.heap.size<=k)->(∀k,vW.ownBlock=some k->k=gW\/w.heap.size<=k)->Kp (fun i=>i=b\/i=gH\/i=gI\/i=gA\/i=gW) w w'->Q (.returned (.tuple #[.int .i64 (n:Int),.int .i64 0,.int .i64 0])) w')):Calls Tryz.prog 40 #[.pointer (some ⟨b,0,none⟩),.agg (aD h),.int .i64 now] w Q:=by
 have hj0:¬(j:Int)<0:=by omega
 have hj1:j<n:=hj;have HJ:=h_ hj;have HZ:=h_ hz;have HR:=h_ (And.intro hA (And.intro rH (And.intro rI (And.intro rA rW))));have HTF:=h_ tf;have zI:(ae id).size=32:=by rw[jH];exact i32
 clear hj hz hA rH rI rA rW tf;have za:=fX ho;go_enter Tryz.func40,Tryz.ntmps40;go_upto_region 1 with fail
 generalize hw0:World.alloc _ _=v0;have hB:Below w.heap.size w v0:=dd hw0;have hH:aH v0 w.heap.size h:=by rw[<-hw0];exact Has.new _ _
 clear hw0;obtain⟨bH,R'⟩:∃x,x=w.heap.size:=⟨_,rfl⟩;have UR:=h_ R';rw[<-R']at hH|-;clear R';go_wp2_with (first|fail|(with_reducible refine cP rfl _ rfl _ rfl hH za ?_))
 refine au (KG.out _ hB) fun v1 hb=>?_;replace hH:=hH.on hb;replace hB:=ah hB hb;clear hb;go_wp2_with (first|fail|(with_reducible refine cP rfl _ rfl _ rfl hH za ?_))
 refine au (KI.out _) fun v2 hb=>?_;replace hH:=hH.on hb;replace hB:=ah hB hb;clear hb;go_wp2_with (first|fail|(with_reducible refine cP rfl _ rfl _ rfl hH za ?_))
 refine au (KF.out _ hB) fun v3 hb=>?_;replace hH:=hH.on hb;replace hB:=ah hB hb;clear hb;have rP:v3.rangeAt bH 1 (Lib.byteCells h.prev):=vm (aH.range hH);have sP:(Lib.byteCells h.prev).length=32:=by rw[Lib.byteCells_length,ho.1]
 go_wp2_with (first|fail|(with_reducible refine gu rfl _ rfl bH 1 rfl h.prev rP sP ?_))
 refine au (KP.out _ hB) fun v4 hb=>?_;replace hH:=hH.on hb;replace hB:=ah hB hb;clear hb;clear rP sP KG KF KP;go_upto_region 9 with fail
 have HB4:=h_ hB;refine ix (by kernel_rfl) (fun w'=>Below v4.heap.size v4 w') (fun i v' w'=>O8 b j p h now y m ch i v' w') (fun _ _ _=>True) (fun w1 w2=>Below w1.heap.size w1 w2) (fun _ _=>Below.refl _ _) (fun i v w w' _ hs h=>K9 i v w w' hs h) (by kernel_rfl) bf.drew (fun _ _=>trivial) ?_ ?_
 ·intro i o lz a wx ho' hnl dq Z;have hC:=Z.c;have hi:i<11:=(Array.getElem?_eq_some_iff.1 ho').1;have Ub:aH wx bH h:=hH.on hC;have hBx:=ah HB4.out hC;have rp:wx.rangeAt b 0 (NN.dR p):=iE (Gl HR.out.1) hBx (by rw[jz hp];decide);obtain rfl|rfl|rfl|rfl|rfl|rfl|rfl|rfl|rfl|rfl|rfl:i=0\/i=1\/i=2\/i=3\/i=4\/i=5\/i=6\/i=7\/i=8\/i=9\/i=10:=by omega
  all_goals obtain rfl:=Option.some.inj ho'
  exact dA (S:=fun w1 w2=>Below w1.heap.size w1 w2) (fun _ _=>Below.refl _ _) 0 Z (an rfl) (NN.dy rfl) (Z.old' 0) trivial;exact dA (S:=fun w1 w2=>Below w1.heap.size w1 w2) (fun _ _=>Below.refl _ _) 1 Z (an rfl) (cG rfl (ar Z dq 0 28)) rfl trivial;exact dA (S:=fun w1 w2=>Below w1.heap.size w1 w2) (fun _ _=>Below.refl _ _) 2 Z (an rfl) (dm rfl (ar Z dq 1 29) (uG wx b)) rfl trivial;exact dA (S:=fun w1 w2=>Below w1.heap.size w1 w2) (fun _ _=>Below.refl _ _) 3 Z (an rfl) (CW rfl (ar Z dq 2 30) rp (jz hp)) rfl trivial;exact dA (S:=fun w1 w2=>Below w1.heap.size w1 w2) (fun _ _=>Below.refl _ _) 4 Z (an rfl) (NN.dy rfl) (Z.old' 0) trivial;exact dA (S:=fun w1 w2=>Below w1.heap.size w1 w2) (fun _ _=>Below.refl _ _) 5 Z (an rfl) (NN.dy rfl) (Z.old' 10) trivial
  ·have e32:a.eval (.tmp 32)=.pointer (some ⟨b,0,none⟩):=(ar Z dq 4 32);have e33:a.eval (.tmp 33)=.int .i64 (j:Int):=(ar Z dq 5 33);exact RB (S:=fun w1 w2=>Below w1.heap.size w1 w2) 6 Z (W:=fun v w'=>∃ad c,v=.slice ad m c/\aO w' ad ch) (an rfl) (f:=79) (args:=#[a.eval (.tmp 32),a.eval (.tmp 33)]) (by kernel_rfl) (by rw[e32,e33];exact KC.out wx hBx) (fun v w' hv hb=>⟨ah hC hb,hb,hv,trivial⟩)
  exact dA (S:=fun w1 w2=>Below w1.heap.size w1 w2) (fun _ _=>Below.refl _ _) 7 Z (an rfl) (nM rfl (Z.old' 4) Ub za) rfl trivial;exact dA (S:=fun w1 w2=>Below w1.heap.size w1 w2) (fun _ _=>Below.refl _ _) 8 Z (an rfl) (NN.dy rfl) (Z.old' 2) trivial
  ·have e31:a.eval (.tmp 31)=.agg (NN.aE p):=(ar Z dq 3 31);obtain⟨ad,c,e34,hch⟩:∃ad c,a.eval (.tmp 34)=.slice ad m c/\aO wx ad ch:=(ar Z dq 6 34);have e35:a.eval (.tmp 35)=.agg (aD h):=(ar Z dq 7 35);have e36:a.eval (.tmp 36)=.int .i64 now:=(ar Z dq 8 36);exact mf (S:=fun w1 w2=>Below w1.heap.size w1 w2) 9 Z (an rfl) (f:=78) (args:=#[a.eval (.tmp 31),a.eval (.tmp 34),a.eval (.tmp 35),a.eval (.tmp 36)]) (by kernel_rfl) (by rw[e31,e34,e35,e36];exact KK.out wx ad c hBx hch) (fun w' hb=>⟨ah hC hb,hb,rfl,trivial⟩)
  exact dA (S:=fun w1 w2=>Below w1.heap.size w1 w2) (fun _ _=>Below.refl _ _) 10 Z (an rfl) (NN.fp rfl) (ar Z dq 9 37) trivial
 intro lz a' v5 hall Z;have hC:=Z.c;have e11:a'.eval (.tmp 11)=.int .i64 y:=Z.got 10 _ 11 rfl (hall 10 (by decide)) rfl;have e0:a'.eval (.tmp 0)=.pointer (some ⟨b,0,none⟩):=Z.old' 0;have e4:a'.eval (.tmp 4)=.pointer (some ⟨bH,0,none⟩):=Z.old' 4;have e10:a'.eval (.tmp 10)=.int .i64 (j:Int):=Z.old' 10;obtain⟨u,hu⟩:∃u:Nat->Value,∀t,u t=a'.eval (.tmp t):=⟨_,fun _=>rfl⟩;rw[e_ a' 108 u Z.R4 Z.defers hu];rw[<-hu]at e0 e4 e10 e11;clear hu Z hall;simp only[List.range,List.range.loop,List.map_cons,List.map_nil];rw[e0,e4,e10,e11];clear e0 e4 e10 e11;replace hH:=hH.on hC;replace hB:=ah hB hC;clear hC HB4 KC KK;cases gy
 case true=>
  go_wp2_with fail
  go_ret3
  exact Wt.out (by simp) _ hB
 go_upto_region 12 with fail
 have Tv:=cg hB HR.out.1 HR.out.1.lt;have XM:∀d os,(Sort.grow (redrawn v5 d) os).cell? ⟨b,83,none⟩=some (.slice (some ⟨gH,0,none⟩) n cH):=cell_regrown (pq Tv hp);have q87:∀d os,(Sort.grow (redrawn v5 d) os).cell? ⟨b,87,none⟩=some (.int .i64 (room:Int)):=cell_regrown (NS Tv hp);clear Tv;refine wp_region_quiet_below (by kernel_rfl) (by kernel_rfl) ?_
 repeat(first
  | go_big_quiet_step (fail))
 refine wpQuiet_nil ?_;intro v6 hw';have hb:=mT v6 hw';replace hH:=hH.on hb;replace hB:=ah hB hb;clear hw' hb XM q87;cases gf
 case true=>
  have hroom:room<=n:=of_decide_eq_true HTF.out;go_wp2_with fail
  go_ret3
  exact HQ2.out (by simp) (by simp) _ hB
 have hroom:¬room<=n:=of_decide_eq_false HTF.out
 have SG:Hid (RY b gH gI gA gW bH):=by
  obtain⟨_,kH⟩:=eP HR.out.2.1 rfl;obtain⟨_,kI⟩:=eP HR.out.2.2.1 rfl;obtain⟨_,kA⟩:=eP HR.out.2.2.2.1 rfl;obtain⟨_,kW⟩:=eP HR.out.2.2.2.2 rfl;have kb:=HR.out.1.out;have lb:=HR.out.1.lt;have lH:=(cK HR.out.2.1 (i:=gH) rfl).1;have lI:=(cK HR.out.2.2.1 (i:=gI) rfl).1;have lA:=(cK HR.out.2.2.2.1 (i:=gA) rfl).1;have lW:=(cK HR.out.2.2.2.2 (i:=gW) rfl).1;have lh:=UR.out;exact h_ ⟨cC kb kH (by decide),cC kb kI (by decide),cC kb kA (by decide),cC kb kW (by decide),cC kH kI (by decide),cC kH kA (by decide),cC kH kW (by decide),cC kI kA (by decide),cC kI kW (by decide),cC kA kW (by decide),by omega,by omega,by omega,by omega,by omega⟩
 have fH:¬(bH=b\/bH=gH):=fun h=>h.elim SG.out.bb SG.out.bh
 have fI:¬(bH=b\/bH=gI):=fun h=>h.elim SG.out.bb SG.out.bi
 have fW:¬(bH=b\/bH=gW):=fun h=>h.elim SG.out.bb SG.out.bw
 have k0:=Kp.of (F:=fun _=>False) hB;have hA:=k0.has HR.out.1 (fun h=>h);have rH:=ax HR.out.2.1 k0 (fun _ _ h=>h);have rI:=ax HR.out.2.2.1 k0 (fun _ _ h=>h);have rA:=ax HR.out.2.2.2.1 k0 (fun _ _ h=>h);have rW:=ax HR.out.2.2.2.2 k0 (fun _ _ h=>h);have HK:=h_ (Kp.of (F:=fun i=>i=b\/i=gH\/i=gI\/i=gA\/i=gW) hB);have U0:Hid (w.heap.size<=v6.heap.size):=h_ hB.size;clear k0 hB HR;go_upto_region 14 with fail
 refine ix (by kernel_rfl) (fun w'=>Kp (fun i=>i=b\/i=gH) v6 w') (fun i v' _=>RX b (.slice (some ⟨gH,0,none⟩) n cH) h i v') (fun l a w'=>iL 6 7 10 57 58 v6.heap.size 30 72 68 (fun cs=>cs=aD h) (.slice (some ⟨gH,0,none⟩) n cH) n xH b (fun u=>iz p u (.slice (some ⟨gI,0,none⟩) n cI) (.slice (some ⟨gA,0,none⟩) n cA) (.slice (some ⟨gW,0,none⟩) n cW) room) l a w') (fun _ _=>True) (fun _ _=>trivial) (fun _ _ _ _ _ _ h=>h) (by kernel_rfl) (Kp.of bf.drew) ?_ ?_ ?_;exact fun l hl=>iL.zero hl (ax rH (Kp.of (F:=fun _=>False) bf.drew) (fun _ _ h=>h)) (Has.drew hA)
 ·intro i o lz a wx ho' hnl dq Z;have hC:=Z.c;have hI:=Z.i;have hi:i<11:=(Array.getElem?_eq_some_iff.1 ho').1;have Ub:aH wx bH h:=hC.has hH fH;have hlx:v6.heap.size<=wx.heap.size:=hC.size;obtain rfl|rfl|rfl|rfl|rfl|rfl|rfl|rfl|rfl|rfl|rfl:i=0\/i=1\/i=2\/i=3\/i=4\/i=5\/i=6\/i=7\/i=8\/i=9\/i=10:=by omega
  all_goals obtain rfl:=Option.some.inj ho'
  exact aP 0 Z (an rfl) (NN.dy rfl) (Z.old' 0) (hI.keep (av Z 0));exact aP 1 Z (an rfl) (NN.dy rfl) (Z.old' 0) (hI.keep (av Z 1));exact aP 2 Z (an rfl) (cG rfl (ar Z dq 1 52)) rfl (hI.keep (av Z 2));exact aP 3 Z (an rfl) (dm rfl (ar Z dq 2 53) (oJ wx b)) rfl (hI.keep (av Z 3));have hsz:=av Z 4;have hks:=dz Z hnl 10;have hAx:=hI.ha (by rw[<-gz lz 4 10 hsz (by decide)];exact hks);exact aP 4 Z (an rfl) (dj rfl (ar Z dq 3 54) (Dh (pq hAx hp))) rfl (hI.keep hsz);exact aP 5 Z (an rfl) (nM rfl (Z.old' 4) Ub za) rfl (hI.keep (av Z 5));have hsz:=av Z 6;have hka:=dz Z hnl 7;have hks:=dz Z hnl 10;have hb:Below wx.heap.size wx (wx.alloc _):=bf.alloc (Nat.le_refl _) (.cells (aD h) 30);exact pw 6 Z (an rfl) (NN.Si.jO rfl (ar Z dq 5 56) (AY _ za wx)) (hC.trans (Kp.of (F:=fun i=>i=b\/i=gH) hb) (fun i hi _=>hi)) rfl (hI.built hsz hka hks (by decide) (by decide) (by rw[Z.R4];exact(show 57<108 by decide)) rfl);have hsz:=av Z 7;have hks:=dz Z hnl 10;have hkb:lz.getD 6 false=true:=dq ⟨6,.data⟩ (by simp) rfl;obtain⟨g,cs,rfl,hg,hgh⟩:=hI.bu hkb hnl;obtain⟨v',w',hr,g1,g2,g3⟩:=we (ρ:=a.eval) (x:=.tmp 55) (y:=.tmp 57) (Ts:=68) Tryz.underlying68 Bs (by decide) (by decide) za (oQ h) (ar Z dq 4 55) (hI.ro hnl) hg hgh (by omega);exact pw 7 Z (an rfl) (hr _ rfl rfl) (hC.trans (Kp.gb (F:=fun i=>i=b\/i=gH) g2 (fun k hk=>.inr (Option.some.inj hk).symm)) (fun i hi _=>hi)) rfl (hI.appended hsz hks (by decide) (by rw[Z.R4];exact(show 58<108 by decide)) rfl g1 g2 g3 hlx (fun e=>SG.out.nH (Option.some.inj e).symm));exact aP 8 Z (an rfl) (cG rfl (ar Z dq 0 51)) rfl (hI.keep (av Z 8));exact aP 9 Z (an rfl) (dm rfl (ar Z dq 8 59) (oJ wx b)) rfl (hI.keep (av Z 9))
  ·have hsz:=av Z 10;have hka:lz.getD 7 false=true:=dq ⟨7,.data⟩ (by simp) rfl;obtain⟨v',cs,rfl,hv',hr',hl'⟩:=hI.ap hka hnl;obtain⟨g',c',rfl⟩:=iH hr' (Nat.succ_pos _);have hAx:=hI.ha hnl;have kb:Kp (fun i=>i=b) wx (wx.setCell ⟨b,83,none⟩ (.slice (some ⟨g',0,none⟩) (n+1) c')):=Kp.gb (fJ wx b 83 _) (fun k hk=>(Option.some.inj hk).symm)
   exact pr 10 Z (an rfl) (ml rfl (ar Z dq 9 60) hv' (BL (Has.free hAx 83) (pq hAx hp))) (hC.trans kb (fun i hi _=>.inl hi)) rfl (iL.stored hsz (by decide) hka rfl (kX hAx hp _ 0 rfl) (ax hr' kb (fun i hi e=>by
    obtain⟨_,k⟩:=eP hr' hi;exact cC k hAx.out (by decide) e)) hl')
 intro lz a' v7 hall Z;have hC:=Z.c;obtain⟨vH,cs,rfl,hA,rH,lH⟩:=Z.i.st (hall 10 (by decide));have e0:a'.eval (.tmp 0)=.pointer (some ⟨b,0,none⟩):=Z.old' 0;have e4:a'.eval (.tmp 4)=.pointer (some ⟨bH,0,none⟩):=Z.old' 4;have e10:a'.eval (.tmp 10)=.int .i64 (j:Int):=Z.old' 10;obtain⟨u,hu⟩:∃u:Nat->Value,∀t,u t=a'.eval (.tmp t):=⟨_,fun _=>rfl⟩;rw[e_ a' 108 u Z.R4 Z.defers hu];rw[<-hu]at e0 e4 e10;clear hu Z hall;simp only[List.range,List.range.loop,List.map_cons,List.map_nil];rw[e0,e4,e10];clear e0 e4 e10;replace hH:aH v7 bH h:=hC.has hH fH;replace rI:=ax rI hC (fun i hi=>fun h=>by have e:gI=i:=Option.some.inj hi;exact h.elim (fun h=>SG.out.nI (e.trans h).symm) (fun h=>SG.out.HI.symm (e.trans h)));replace rA:=ax rA hC (fun i hi=>fun h=>by have e:gA=i:=Option.some.inj hi;exact h.elim (fun h=>SG.out.nA (e.trans h).symm) (fun h=>SG.out.HA.symm (e.trans h)));replace rW:=ax rW hC (fun i hi=>fun h=>by have e:gW=i:=Option.some.inj hi;exact h.elim (fun h=>SG.out.nW (e.trans h).symm) (fun h=>SG.out.HW.symm (e.trans h)));replace HK:=h_ (HK.out.trans hC (fun i hi _=>hi.elim .inl (fun h=>.inr (.inl h))));have LH:Hid (∀k,vH.ownBlock=some k->k=gH\/w.heap.size<=k):=h_ fun k hk=>lH.elim (fun e=>.inl (Option.some.inj (e.symm.trans hk)).symm) (fun⟨g,e,hg⟩=>.inr (by have:=Option.some.inj (e.symm.trans hk);have:=U0.out;omega))
 replace U0:Hid (w.heap.size<=v7.heap.size):=h_ (Nat.le_trans U0.out hC.size);clear hC lH;have Sn:=hA.out;obtain⟨_,h0⟩:=eP rI (i:=gI) rfl;go_upto_region 15 with fail
 refine ix (by kernel_rfl) (fun w'=>Kp (fun i=>i=b\/i=gI) v7 w') (fun i v' _=>RQ b (.slice (some ⟨gI,0,none⟩) n cI) h id i v') (fun l a w'=>iL 7 8 11 68 69 v7.heap.size 28 72 32 (fun cs=>cs=ae id) (.slice (some ⟨gI,0,none⟩) n cI) n xI b (fun u=>iz p vH u (.slice (some ⟨gA,0,none⟩) n cA) (.slice (some ⟨gW,0,none⟩) n cW) room) l a w') (fun _ _=>True) (fun _ _=>trivial) (fun _ _ _ _ _ _ h=>h) (by kernel_rfl) (Kp.of bf.drew) ?_ ?_ ?_;exact fun l hl=>iL.zero hl (ax rI (Kp.of (F:=fun _=>False) bf.drew) (fun _ _ h=>h)) (Has.drew hA)
 ·intro i o lz a wx ho' hnl dq Z;have hC:=Z.c;have hI:=Z.i;have hi:i<12:=(Array.getElem?_eq_some_iff.1 ho').1;have Ub:aH wx bH h:=hC.has hH fI;have hlx:v7.heap.size<=wx.heap.size:=hC.size;obtain rfl|rfl|rfl|rfl|rfl|rfl|rfl|rfl|rfl|rfl|rfl|rfl:i=0\/i=1\/i=2\/i=3\/i=4\/i=5\/i=6\/i=7\/i=8\/i=9\/i=10\/i=11:=by omega
  all_goals obtain rfl:=Option.some.inj ho'
  exact aP 0 Z (an rfl) (NN.dy rfl) (Z.old' 0) (hI.keep (av Z 0));exact aP 1 Z (an rfl) (NN.dy rfl) (Z.old' 0) (hI.keep (av Z 1));exact aP 2 Z (an rfl) (cG rfl (ar Z dq 1 62)) rfl (hI.keep (av Z 2));exact aP 3 Z (an rfl) (dm rfl (ar Z dq 2 63) (oc wx b)) rfl (hI.keep (av Z 3));have hsz:=av Z 4;have hks:=dz Z hnl 11;have hAx:=hI.ha (by rw[<-gz lz 4 11 hsz (by decide)];exact hks);exact aP 4 Z (an rfl) (dj rfl (ar Z dq 3 64) (zX (B_ hAx hp))) rfl (hI.keep hsz);exact aP 5 Z (an rfl) (nM rfl (Z.old' 4) Ub za) rfl (hI.keep (av Z 5))
  ·have hsz:=av Z 6;have Zl:a.eval (.tmp 66)=.agg (aD h):=(ar Z dq 5 66);exact mf (S:=mQ) 6 Z (an rfl) (f:=75) (args:=#[a.eval (.tmp 66)]) (by kernel_rfl) (by rw[Zl];exact KI.out wx) (fun w' hb=>⟨hC.trans (Kp.of (F:=fun i=>i=b\/i=gI) hb) (fun i hi _=>hi),trivial,rfl,(hI.on hb).keep hsz⟩)
  have hsz:=av Z 7;have hka:=dz Z hnl 8;have hks:=dz Z hnl 11;have hb:Below wx.heap.size wx (wx.alloc _):=bf.alloc (Nat.le_refl _) (.cells (ae id) 28);exact pw 7 Z (an rfl) (NN.Si.jO rfl (ar Z dq 6 67) (Ki _ zI wx)) (hC.trans (Kp.of (F:=fun i=>i=b\/i=gI) hb) (fun i hi _=>hi)) rfl (hI.built hsz hka hks (by decide) (by decide) (by rw[Z.R4];exact(show 68<108 by decide)) rfl);have hsz:=av Z 8;have hks:=dz Z hnl 11;have hkb:lz.getD 7 false=true:=dq ⟨7,.data⟩ (by simp) rfl;obtain⟨g,cs,rfl,hg,hgh⟩:=hI.bu hkb hnl;obtain⟨v',w',hr,g1,g2,g3⟩:=we (ρ:=a.eval) (x:=.tmp 65) (y:=.tmp 68) (Ts:=69) Tryz.underlying69 Cn (by decide) (by decide) zI (by rw[iD];exact Lib.byteCells_one id) (ar Z dq 4 65) (hI.ro hnl) hg hgh (by omega);exact pw 8 Z (an rfl) (hr _ rfl rfl) (hC.trans (Kp.gb (F:=fun i=>i=b\/i=gI) g2 (fun k hk=>.inr (Option.some.inj hk).symm)) (fun i hi _=>hi)) rfl (hI.appended hsz hks (by decide) (by rw[Z.R4];exact(show 69<108 by decide)) rfl g1 g2 g3 hlx (fun e=>SG.out.nI (Option.some.inj e).symm));exact aP 9 Z (an rfl) (cG rfl (ar Z dq 0 61)) rfl (hI.keep (av Z 9));exact aP 10 Z (an rfl) (dm rfl (ar Z dq 9 70) (oc wx b)) rfl (hI.keep (av Z 10))
  ·have hsz:=av Z 11;have hka:lz.getD 8 false=true:=dq ⟨8,.data⟩ (by simp) rfl;obtain⟨v',cs,rfl,hv',hr',hl'⟩:=hI.ap hka hnl;obtain⟨g',c',rfl⟩:=iH hr' (Nat.succ_pos _);have hAx:=hI.ha hnl;have kb:Kp (fun i=>i=b) wx (wx.setCell ⟨b,84,none⟩ (.slice (some ⟨g',0,none⟩) (n+1) c')):=Kp.gb (fJ wx b 84 _) (fun k hk=>(Option.some.inj hk).symm)
   exact pr 11 Z (an rfl) (ml rfl (ar Z dq 10 71) hv' (AI (Has.free hAx 84) (B_ hAx hp))) (hC.trans kb (fun i hi _=>.inl hi)) rfl (iL.stored hsz (by decide) hka rfl (kX hAx hp _ 1 rfl) (ax hr' kb (fun i hi e=>by
    obtain⟨_,k⟩:=eP hr' hi;exact cC k hAx.out (by decide) e)) hl')
 intro lz a' v8 hall Z;have hC:=Z.c;obtain⟨vI,cs,rfl,hA,rI,lI⟩:=Z.i.st (hall 11 (by decide));have e0:a'.eval (.tmp 0)=.pointer (some ⟨b,0,none⟩):=Z.old' 0;have e4:a'.eval (.tmp 4)=.pointer (some ⟨bH,0,none⟩):=Z.old' 4;have e10:a'.eval (.tmp 10)=.int .i64 (j:Int):=Z.old' 10;obtain⟨u,hu⟩:∃u:Nat->Value,∀t,u t=a'.eval (.tmp t):=⟨_,fun _=>rfl⟩;rw[e_ a' 108 u Z.R4 Z.defers hu];rw[<-hu]at e0 e4 e10;clear hu Z hall;simp only[List.range,List.range.loop,List.map_cons,List.map_nil];rw[e0,e4,e10];clear e0 e4 e10;replace hH:aH v8 bH h:=hC.has hH fI;replace rH:=ax rH hC (fun i hi=>fun h=>by obtain⟨_,k⟩:=eP rH hi;exact h.elim (fun h=>cC k Sn (by decide) h) (fun h=>cC k h0 (by decide) h));replace rA:=ax rA hC (fun i hi=>fun h=>by have e:gA=i:=Option.some.inj hi;exact h.elim (fun h=>SG.out.nA (e.trans h).symm) (fun h=>SG.out.IA.symm (e.trans h)));replace rW:=ax rW hC (fun i hi=>fun h=>by have e:gW=i:=Option.some.inj hi;exact h.elim (fun h=>SG.out.nW (e.trans h).symm) (fun h=>SG.out.IW.symm (e.trans h)));replace HK:=h_ (HK.out.trans hC (fun i hi _=>hi.elim .inl (fun h=>.inr (.inr (.inl h)))));have LI:Hid (∀k,vI.ownBlock=some k->k=gI\/w.heap.size<=k):=h_ fun k hk=>lI.elim (fun e=>.inl (Option.some.inj (e.symm.trans hk)).symm) (fun⟨g,e,hg⟩=>.inr (by have:=Option.some.inj (e.symm.trans hk);have:=U0.out;omega))
 replace U0:Hid (w.heap.size<=v8.heap.size):=h_ (Nat.le_trans U0.out hC.size);clear hC lI;replace Sn:=hA.out;obtain⟨_,h0⟩:=eP rW (i:=gW) rfl;go_upto_region 16 with fail
 refine ix (by kernel_rfl) (fun w'=>Kp (fun i=>i=b\/i=gW) v8 w') (fun i v' _=>RW b bH gW j z xo xs (.slice (some ⟨gW,0,none⟩) n cW) h.bits i v') (fun l a w'=>iL 16 17 20 88 89 v8.heap.size 26 72 4 (fun cs=>∃z,(z<NN.Nm.ai/\z=xs)/\cs=NN.aa z) (.slice (some ⟨gW,0,none⟩) n cW) n xW b (fun u=>iz p vH vI (.slice (some ⟨gA,0,none⟩) n cA) u room) l a w') (fun _ _=>True) (fun _ _=>trivial) (fun _ _ _ _ _ _ h=>h) (by kernel_rfl) (Kp.of bf.drew) ?_ ?_ ?_;exact fun l hl=>iL.zero hl (ax rW (Kp.of (F:=fun _=>False) bf.drew) (fun _ _ h=>h)) (Has.drew hA)
 ·intro i o lz a wx ho' hnl dq Z;have hC:=Z.c;have hI:=Z.i;have hi:i<21:=(Array.getElem?_eq_some_iff.1 ho').1;have Ub:aH wx bH h:=hC.has hH fW;have hlx:v8.heap.size<=wx.heap.size:=hC.size;obtain rfl|rfl|rfl|rfl|rfl|rfl|rfl|rfl|rfl|rfl|rfl|rfl|rfl|rfl|rfl|rfl|rfl|rfl|rfl|rfl|rfl:i=0\/i=1\/i=2\/i=3\/i=4\/i=5\/i=6\/i=7\/i=8\/i=9\/i=10\/i=11\/i=12\/i=13\/i=14\/i=15\/i=16\/i=17\/i=18\/i=19\/i=20:=by omega
  all_goals obtain rfl:=Option.some.inj ho'
  exact aP 0 Z (an rfl) (NN.dy rfl) (Z.old' 0) (hI.keep (av Z 0));exact aP 1 Z (an rfl) (NN.dy rfl) (Z.old' 0) (hI.keep (av Z 1));exact aP 2 Z (an rfl) (cG rfl (ar Z dq 1 73)) rfl (hI.keep (av Z 2));exact aP 3 Z (an rfl) (dm rfl (ar Z dq 2 74) (kR wx b)) rfl (hI.keep (av Z 3));have hsz:=av Z 4;have hks:=dz Z hnl 20;have hAx:=hI.ha (by rw[<-gz lz 4 20 hsz (by decide)];exact hks);exact aP 4 Z (an rfl) (dj rfl (ar Z dq 3 75) (xU (xa hAx hp))) rfl (hI.keep hsz);exact aP 5 Z (an rfl) (NN.dy rfl) (Z.old' 0) (hI.keep (av Z 5));exact aP 6 Z (an rfl) (cG rfl (ar Z dq 5 77)) rfl (hI.keep (av Z 6));exact aP 7 Z (an rfl) (dm rfl (ar Z dq 6 78) (kR wx b)) rfl (hI.keep (av Z 7));have hsz:=av Z 8;have hks:=dz Z hnl 20;have hAx:=hI.ha (by rw[<-gz lz 8 20 hsz (by decide)];exact hks);exact aP 8 Z (an rfl) (dj rfl (ar Z dq 7 79) (xU (xa hAx hp))) rfl (hI.keep hsz);exact aP 9 Z (an rfl) (NN.dy rfl) (Z.old' 10) (hI.keep (av Z 9));exact aP 10 Z (an rfl) (gw rfl (ar Z dq 8 80) (ar Z dq 9 81) (NT wx gW j n cW HJ.out)) rfl (hI.keep (av Z 10));have hsz:=av Z 11;have hka:=dz Z hnl 17;exact aP 11 Z (an rfl) (FT rfl (ar Z dq 10 82) (Z6.out _ (hI.ro (by rw[<-gz lz 11 17 hsz (by decide)];exact hka)))) rfl (hI.keep hsz);exact aP 12 Z (an rfl) (dm rfl (Z.old' 4) (om wx bH)) rfl (hI.keep (av Z 12));exact aP 13 Z (an rfl) (NN.lC rfl (ar Z dq 12 84) (Ub.bits ho)) rfl (hI.keep (av Z 13))
  ·have hsz:=av Z 14;have e85:a.eval (.tmp 85)=.int .i64 h.bits:=(ar Z dq 13 85);refine zL (S:=mQ) 14 Z (an rfl) (f:=76) (args:=#[a.eval (.tmp 85)]) (by kernel_rfl) ?_;rw[e85];refine(KO.out wx).mono ?_;rintro e w' ⟨zq,hq,rfl,hb⟩;exact⟨_,rfl,hC.trans (Kp.of (F:=fun i=>i=b\/i=gW) hb) (fun i hi _=>hi),trivial,⟨zq,hq,rfl⟩,(hI.on hb).keep hsz⟩
  ·have hsz:=av Z 15;have e83:a.eval (.tmp 83)=.agg (NN.aa z):=(ar Z dq 11 83);obtain⟨zb,hzb,e86⟩:pR xo (a.eval (.tmp 86)):=(ar Z dq 14 86);refine zL (S:=mQ) 15 Z (an rfl) (f:=80) (args:=#[a.eval (.tmp 83),a.eval (.tmp 86)]) (by kernel_rfl) ?_;rw[e83,e86];refine(KS.out zb hzb wx).mono ?_;rintro e w' ⟨zq,hq,rfl,hb⟩;exact⟨_,rfl,hC.trans (Kp.of (F:=fun i=>i=b\/i=gW) hb) (fun i hi _=>hi),trivial,⟨zq,hq,rfl⟩,(hI.on hb).keep hsz⟩
  have hsz:=av Z 16;have hka:=dz Z hnl 17;have hks:=dz Z hnl 20;obtain⟨zb,hzb,e87⟩:pR xs (a.eval (.tmp 87)):=(ar Z dq 15 87);have hb:Below wx.heap.size wx (wx.alloc _):=bf.alloc (Nat.le_refl _) (.cells (NN.aa zb) 26);exact pw 16 Z (an rfl) (NN.Si.jO rfl e87 (Lg _ (NN.fU zb) wx)) (hC.trans (Kp.of (F:=fun i=>i=b\/i=gW) hb) (fun i hi _=>hi)) rfl (hI.built hsz hka hks (by decide) (by decide) (by rw[Z.R4];exact(show 88<108 by decide)) ⟨zb,hzb,rfl⟩);have hsz:=av Z 17;have hks:=dz Z hnl 20;have hkb:lz.getD 16 false=true:=dq ⟨16,.data⟩ (by simp) rfl;obtain⟨g,cs,⟨zb,hzb,rfl⟩,hg,hgh⟩:=hI.bu hkb hnl;obtain⟨v',w',hr,g1,g2,g3⟩:=we (ρ:=a.eval) (x:=.tmp 76) (y:=.tmp 88) (Ts:=70) Tryz.underlying70 Lw (by decide) (by decide) (NN.fU zb) (zp zb) (ar Z dq 4 76) (hI.ro hnl) hg hgh (by omega);exact pw 17 Z (an rfl) (hr _ rfl rfl) (hC.trans (Kp.gb (F:=fun i=>i=b\/i=gW) g2 (fun k hk=>.inr (Option.some.inj hk).symm)) (fun i hi _=>hi)) rfl (hI.appended hsz hks (by decide) (by rw[Z.R4];exact(show 89<108 by decide)) ⟨zb,hzb,rfl⟩ g1 g2 g3 hlx (fun e=>SG.out.nW (Option.some.inj e).symm));exact aP 18 Z (an rfl) (cG rfl (ar Z dq 0 72)) rfl (hI.keep (av Z 18));exact aP 19 Z (an rfl) (dm rfl (ar Z dq 18 90) (kR wx b)) rfl (hI.keep (av Z 19))
  ·have hsz:=av Z 20;have hka:lz.getD 17 false=true:=dq ⟨17,.data⟩ (by simp) rfl;obtain⟨v',cs,⟨zb,hzb,rfl⟩,hv',hr',hl'⟩:=hI.ap hka hnl;obtain⟨g',c',rfl⟩:=iH hr' (Nat.succ_pos _);have hAx:=hI.ha hnl;have kb:Kp (fun i=>i=b) wx (wx.setCell ⟨b,86,none⟩ (.slice (some ⟨g',0,none⟩) (n+1) c')):=Kp.gb (fJ wx b 86 _) (fun k hk=>(Option.some.inj hk).symm)
   exact pr 20 Z (an rfl) (ml rfl (ar Z dq 19 91) hv' (tv (Has.free hAx 86) (xa hAx hp))) (hC.trans kb (fun i hi _=>.inl hi)) rfl (iL.stored hsz (by decide) hka ⟨zb,hzb,rfl⟩ (kX hAx hp _ 3 rfl) (ax hr' kb (fun i hi e=>by
    obtain⟨_,k⟩:=eP hr' hi;exact cC k hAx.out (by decide) e)) hl')
 intro lz a' v9 hall Z;have hC:=Z.c;obtain⟨vW,cs,⟨zb,hzb,rfl⟩,hA,rW,lW⟩:=Z.i.st (hall 20 (by decide));have e0:a'.eval (.tmp 0)=.pointer (some ⟨b,0,none⟩):=Z.old' 0;have e4:a'.eval (.tmp 4)=.pointer (some ⟨bH,0,none⟩):=Z.old' 4;have e10:a'.eval (.tmp 10)=.int .i64 (j:Int):=Z.old' 10;obtain⟨u,hu⟩:∃u:Nat->Value,∀t,u t=a'.eval (.tmp t):=⟨_,fun _=>rfl⟩;rw[e_ a' 108 u Z.R4 Z.defers hu];rw[<-hu]at e0 e4 e10;clear hu Z hall;simp only[List.range,List.range.loop,List.map_cons,List.map_nil];rw[e0,e4,e10];clear e0 e4 e10;replace hH:aH v9 bH h:=hC.has hH fW;replace rH:=ax rH hC (fun i hi=>fun h=>by obtain⟨_,k⟩:=eP rH hi;exact h.elim (fun h=>cC k Sn (by decide) h) (fun h=>cC k h0 (by decide) h));replace rI:=ax rI hC (fun i hi=>fun h=>by obtain⟨_,k⟩:=eP rI hi;exact h.elim (fun h=>cC k Sn (by decide) h) (fun h=>cC k h0 (by decide) h));replace rA:=ax rA hC (fun i hi=>fun h=>by have e:gA=i:=Option.some.inj hi;exact h.elim (fun h=>SG.out.nA (e.trans h).symm) (fun h=>SG.out.AW (e.trans h)));replace HK:=h_ (HK.out.trans hC (fun i hi _=>hi.elim .inl (fun h=>.inr (.inr (.inr (.inr h))))));have LW:Hid (∀k,vW.ownBlock=some k->k=gW\/w.heap.size<=k):=h_ fun k hk=>lW.elim (fun e=>.inl (Option.some.inj (e.symm.trans hk)).symm) (fun⟨g,e,hg⟩=>.inr (by have:=Option.some.inj (e.symm.trans hk);have:=U0.out;omega))
 replace U0:Hid (w.heap.size<=v9.heap.size):=h_ (Nat.le_trans U0.out hC.size);clear hC lW;have HZb:=h_ hzb;clear Sn h0 hzb;have hb2:Below v9.heap.size v9 (v9.alloc (.cells #[.int .i64 (j:Int)] 3)):=aY;have k2:=Kp.of (F:=fun _=>False) hb2;have rA2:=ax rA k2 (fun _ _ h=>h);have hA2:=k2.has hA (fun h=>h);have hz2:(v9.alloc (.cells #[.int .i64 (j:Int)] 3)).cell? ⟨v9.heap.size,0,none⟩=some (.int .i64 (j:Int)):=Has.cell (Has.new _ _) 0;have c85:=wC hA hp;have hmk:=fun w=>nK w (j:Int)
 go_upto_region 18 with(first
  | ((with_reducible refine QE rfl _ _ rfl (.slice (some ⟨gA,0,none⟩) n cA) n lA rfl rA2 v9.heap.size (j:Int) rfl hz2 TW ?_);intro vA v10 Ve Wg XT;obtain⟨gA',WG,rfl⟩:=iH Ve (Nat.succ_pos _);have TX:Has v10 b (iz p vH vI (.slice (some ⟨gA,0,none⟩) n cA) vW room) 72:=(Wg.block b (Has.lt hA2) (fun e=>SG.out.nA (Option.some.inj e))).trans hA2;have f85:=Has.free TX 85;have d85:=wC TX hp)
  | (with_reducible refine Re rfl _ _ rfl ⟨b,85,none⟩ _ _ _ _ rfl rfl f85 d85 ?_))
 simp only[Act.put];have lA:∀k,(Value.slice (some ⟨gA',0,none⟩) (n+1) WG).ownBlock=some k->k=gA\/w.heap.size<=k:=fun k hk=>XT.elim (fun e=>.inl (Option.some.inj (e.symm.trans hk)).symm) (fun e=>.inr (by have:=Option.some.inj (e.symm.trans hk);have:=U0.out;have:=hb2.size;omega))
 have LA:=h_ lA;have kA:Kp (fun i=>i=b\/i=gA) v9 (v10.setCell ⟨b,85,none⟩ (.slice (some ⟨gA',0,none⟩) (n+1) WG)):=((Kp.of (F:=fun i=>i=b\/i=gA) hb2).trans (Kp.gb (F:=fun i=>i=b\/i=gA) Wg (fun k hk=>.inr (Option.some.inj hk).symm)) (fun i hi _=>hi)).trans (Kp.gb (F:=fun i=>i=b\/i=gA) (fJ v10 b 85 _) (fun k hk=>.inl (Option.some.inj hk).symm)) (fun i hi _=>hi);have Vd:=kX TX hp (.slice (some ⟨gA',0,none⟩) (n+1) WG) 2 rfl
 have XU:=ax Ve (Kp.gb (F:=fun i=>i=b) (fJ v10 b 85 (.slice (some ⟨gA',0,none⟩) (n+1) WG)) (fun k hk=>(Option.some.inj hk).symm)) (fun i hi e=>by
  obtain⟨_,k⟩:=eP Ve hi;exact cC k TX.out (by decide) e)
 have Sn:=hA.out;obtain⟨_,h0⟩:=eP rA (i:=gA) rfl;replace rH:=ax rH kA (fun i hi=>fun h=>by obtain⟨_,k⟩:=eP rH hi;exact h.elim (fun h=>cC k Sn (by decide) h) (fun h=>cC k h0 (by decide) h));replace rI:=ax rI kA (fun i hi=>fun h=>by obtain⟨_,k⟩:=eP rI hi;exact h.elim (fun h=>cC k Sn (by decide) h) (fun h=>cC k h0 (by decide) h));replace rW:=ax rW kA (fun i hi=>fun h=>by obtain⟨_,k⟩:=eP rW hi;exact h.elim (fun h=>cC k Sn (by decide) h) (fun h=>cC k h0 (by decide) h));replace HK:=h_ (HK.out.trans kA (fun i hi _=>hi.elim .inl (fun h=>.inr (.inr (.inr (.inl h))))));clear Sn h0 kA lA hA hA2 rA rA2 k2 hz2 hmk hb2 Wg XT f85 d85 c85 TX Ve hH;generalize Z7:v10.setCell ⟨b,85,none⟩ (.slice (some ⟨gA',0,none⟩) (n+1) WG)=v11 at*;clear Z7;have Wh:Has v11 b (iz p vH vI (.slice (some ⟨gA',0,none⟩) (n+1) WG) vW room) 72:=Vd;clear Vd;obtain⟨gH',cH',rfl⟩:=iH rH (Nat.succ_pos _);have HF:=h_ (HQ3.out rfl rfl v11 _ vI _ vW zb HZb.out Wh rH rI XU rW LH.out LI.out LA.out LW.out HK.out);have UZ:=pq Wh hp;clear Wh rH rI XU rW HK;obtain⟨n1,hn1⟩:∃n1,n1=n+1:=⟨_,rfl⟩;rw[<-hn1]at UZ;have wm:IntKind.i64.wrap ((n1:Int)-1)=(n:Int):=by rw[IntKind.wrap_i64];omega
 clear hn1;go_wp2_with fail
 go_ret3
 exact HF.out
end An
namespace An
open Go.RowKit Mem Sc
open Ar (aq Ru aB Ok)
theorem xP(r:Ru)(e:aq)(h:Hd)(now:Int):0<=Ar.kD r e h now:=by
 unfold Ar.kD qy;repeat' split
 all_goals omega
variable{r:Ru}
theorem Ns{p:NN.Pr}{t:Tl}(h:Alike p t r)(hs:List Hd)(hd:Hd)(now:Int):lq p r.gs r.cs (gQ p r.g hs hs.length) hd now=lq r.p r.gs r.cs (gQ r.p r.g hs hs.length) hd now:=by obtain⟨pl,pi,ps,pf,pe,pt⟩:=p;obtain⟨⟨rl,ri,rs,rf,re,rt⟩,_,_,_,_⟩:=r;obtain⟨h1,h2,h3,h4,h5,h6⟩:=h;simp only at h1 h2 h3 h4 h5;subst h1 h2 h3 h4 h5;rfl
variable{w:World}{B b:Nat}{F:Nat->Prop}{M:List aq}
theorem gC.keep{w':World}(h:gC w B F b r M)(hb:Bl w w'):gC w' B (iQ F w w') b r M:=by have h0:=h.1;have h1:=h.2.1;have hs:=hb.size;exact(h.below hb).wide (fun _ hi=>.inl hi) fun i hi=>hi.elim (fun hi=>⟨(h1 i hi).1,by have:=(h1 i hi).2;omega⟩) fun hi=>⟨Nat.le_trans h0 hi.1,hi.2⟩
theorem vt(hR:gC w B F b r M)(hM:Ok r M)(hl:M.length<=900)(hgl:r.gs.length<=1000)(hcl:r.cs.length<=1000)(XV:2<=r.p.R8)(h:Hd)(ho:h.ok)(now:Int)(n1:-9223372036854775808<=now)(n2:now<=9223372036854775807):aG 40 #[af b,.agg (aD h),i_ now] w fun e w'=>e=.returned (.tuple #[i_ (Ar.add r M h now).1.1,i_ (Ar.add r M h now).1.2.1,i_ (Ar.add r M h now).1.2.2])/\gC w' B (iQ F w w') b r (Ar.add r M h now).2/\Kp F w w':=by
 have hpos:=hM.pos;have KG:∀g,decide h.P=g->aQ w 73 #[.agg (aD h)] (.bool g):=fun g hg=>h_ fun w' _=>by rw[<-hg];exact mj h ho w'
 by_cases hP:h.P
 ·have Uf:=KG true (decide_eq_true hP);have KI:zF 75 #[.agg (aD h)] (.agg (ae h.id)):=h_ fun w'=>iX h ho w'
  have Yo:aQ w 75 #[.agg (aD h)] (.agg (ae h.id)):=h_ fun w' _=>iX h ho w'
  cases h1:Ar.j7 r.g M h.id with
  | some i=>
   have ea:Ar.add r M h now=((((i:Nat):Int),(0:Int),(0:Int)),M):=by unfold Ar.add;rw[if_neg (fun hh=>hh hP),h1]
   rw[ea];refine(Ny b h ho now w Uf h.id Yo i (h_ fun w' hb=>?_)).mono ?_;have:=ud (hR.below hb) hpos (by omega) h.id (iv h);rwa[h1]at this
   rintro e w' ⟨rfl,hb⟩;exact⟨rfl,hR.keep hb,Kp.of hb⟩
  | none=>
   have KF:aQ w 77 #[af b,.agg (ae h.id)] (i_ (-1)):=h_ fun w' hb=>by
    have:=ud (hR.below hb) hpos (by omega) h.id (iv h);rwa[h1]at this
   cases h2:Ar.j7 r.g M h.prev with
   | none=>
    have ea:Ar.add r M h now=((-1,2,5),M):=(by unfold Ar.add;rw[if_neg (fun hh=>hh hP),h1];simp only[h2]);rw[ea];refine(O4 b h ho now w Uf h.id Yo KF (h_ fun w' hb=>?_)).mono ?_;have:=ud (hR.below hb) hpos (by omega) h.prev ho.1;rwa[h2]at this
    rintro e w' ⟨rfl,hb⟩;exact⟨rfl,hR.keep hb,Kp.of hb⟩
   | some j=>
    have KP:aQ w 77 #[af b,.agg (ae h.prev)] (i_ j):=h_ fun w' hb=>by
     have:=ud (hR.below hb) hpos (by omega) h.prev ho.1;rwa[h2]at this
    obtain⟨d,hd,_⟩:=Ar.ql h2;have hjl:=(List.getElem?_eq_some_iff.1 hd).1;have eD:M.getD j aB=d:=(by rw[List.getD_eq_getElem?_getD,hd];rfl);have hdl:=(hM.chain j d hd).1;have hR':=hR;obtain⟨b0,b1,b2,p,t,vH,vI,vA,vW,ws,h3,h4,h5,g1,g2,g3,g4⟩:=hR';have rH:=h3.TG;have rI:=h3.TU;have rA:=h3.TH;have rW:=h3.TV;rw[List.length_map]at rH rI rA;have h5l:ws.length=M.length:=(by rw[h5,List.length_map]);rw[h5l]at rW;obtain⟨gH,cH,rfl⟩:=iH rH hpos;obtain⟨gI,cI,rfl⟩:=iH rI hpos;obtain⟨gA,cA,rfl⟩:=iH rA hpos;obtain⟨gW,cW,rfl⟩:=iH rW hpos;obtain⟨z,hz⟩:∃z,ws[j]?=some z:=⟨_,List.getElem?_eq_getElem (by omega)⟩;have hzb:=h3.small z (List.mem_of_getElem? hz)
    have hze:z=fu r d.hs:=by
     rw[h5,List.getElem?_map,hd]at hz;exact(Option.some.inj hz).symm
    have Z6:Hid (∀w':World,w'.ownsRow 0 26 4 (.slice (aT gW) M.length cW) M.length (ws.flatMap fun z=>(NN.aa z).toList)->w'.rangeAt gW (j*4) (NN.aa z).toList):=h_ fun w' hr=>by
     obtain⟨A,C,e,hA⟩:=qZ (fun z=>(NN.aa z).toList) 4 ws (fun z _=>by rw[Array.length_toList,NN.fU]) j z hz;rw[e]at hr;obtain⟨g,c,e1,e2⟩:=lB hr hpos;rw[hA]at e2;cases e1;exact e2
    have KC:Hid (∀w',Below w.heap.size w w'->aG 79 #[af b,i_ j] w' fun e w''=>∃v,e=.returned v/\(∃ad c,v=.slice ad (d.hs.length+1) c/\aO w'' ad (r.g::d.hs))/\Below w'.heap.size w' w''):=h_ fun w' hb=>(H' (hR.below hb) hM hl j d hd).mono fun e w'' ⟨ad,c,e1,e2,_,e3⟩=>⟨_,e1,⟨ad,c,rfl,e2⟩,e3⟩
    have ey:lq p r.gs r.cs (gQ p r.g d.hs d.hs.length) h now=Ar.kD r d h now:=(Ns h4 d.hs h now).trans (hM.Zp XV hd h now n1 n2)
    have KK:Hid (∀w' ad c,Below w.heap.size w w'->aO w' ad (r.g::d.hs)->ak 78 #[.agg (NN.aE p),.slice ad (d.hs.length+1) c,.agg (aD h),i_ now] w' (i_ (Ar.kD r d h now))):=h_ fun w' ad c hb hH=>by
     rw[<-ey];have hk:=h3.below hb;exact Km p hk.Su t hk.tt r.gs r.cs hk.gn hk.cn (by rw[hk.gn];exact hgl) (by rw[hk.cn];exact hcl) ad r.g d.hs _ c rfl (by omega) h ho now w' hH hk.Sl.now hk.checks.now
    have hwp:=xP r d h now;refine NC b p h3.Su r.room M.length gH cH gI cI gA cA gW cW _ _ _ (M.map aq.up) h ho now w h3.has rH rI rA rW hl j hjl z hzb Z6 Uf h.id (iv h) KI KF KP (d.hs.length+1) (r.g::d.hs) KC (Ar.kD r d h now) KK _ (NN.Nm.cap (fu r d.hs+NN.ofBits h.bits)) (h_ (NN.J1 h.bits)) (h_ fun x hx=>?_) _ _ rfl rfl _ (h_ fun hy w' hb=>?_) (h_ fun hy hf w' hb=>?_) (h_ fun hy hf w' vH vI vA vW z' hz' a1 a2 a3 a4 a5 l1 l2 l3 l4 hk=>?_);exact fun w'=>(NN.xl z x hzb hx.1 w').mono fun e w'' ⟨e1,e2⟩=>⟨_,⟨NN.Nm.nc _,by rw[hze,hx.2]⟩,e1,e2⟩
    have h3':¬Ar.kD r d h now=0:=(by have:=of_decide_eq_true hy;omega);have ea:Ar.add r M h now=((-1,Ar.kD r d h now,8),M):=(by unfold Ar.add;rw[if_neg (fun hh=>hh hP),h1];simp only[h2,eD];rw[if_pos h3']);rw[ea];exact⟨rfl,hR.keep hb,Kp.of hb⟩;have h3':Ar.kD r d h now=0:=(by have:=of_decide_eq_false hy;omega);have ea:Ar.add r M h now=((-1,0,6),M):=(by unfold Ar.add;rw[if_neg (fun hh=>hh hP),h1];simp only[h2,eD];rw[if_neg (fun hh=>hh h3'),if_pos (of_decide_eq_true hf)]);rw[ea];exact⟨rfl,hR.keep hb,Kp.of hb⟩
    ·have h3':Ar.kD r d h now=0:=(by have:=of_decide_eq_false hy;omega);have ea:Ar.add r M h now=((((M.length:Nat):Int),(0:Int),(0:Int)),M++[⟨d.hs++[h],(j:Int)⟩]):=(by unfold Ar.add;rw[if_neg (fun hh=>hh hP),h1];simp only[h2,eD];rw[if_neg (fun hh=>hh h3'),if_neg (of_decide_eq_false hf)]);rw[ea];have fH:=g1 gH rfl;have fI:=g2 gI rfl;have fA:=g3 gA rfl;have fW:=g4 gW rfl;have ai:∀i,(i=b\/i=gH\/i=gI\/i=gA\/i=gW)->F i:=by rintro i (rfl|rfl|rfl|rfl|rfl)<;>assumption
     have nx:∀{T:TypeId}{size n:Nat}{v:Value}{xs:List Value}{g:Nat},F g->w'.ownsRow 0 T size v n xs->(∀k,v.ownBlock=some k->k=g\/w.heap.size<=k)->∀i,v.ownBlock=some i->iQ F w w' i:=fun hg hr hv i hi=>(hv i hi).elim (fun e=>.inl (e▸hg)) (fun e=>.inr ⟨e,(cK hr hi).1⟩)
     have nb:∀i,iQ F w w' i->¬i<B:=fun i hi hlt=>hi.elim (fun h=>by have:=(b1 i h).1;omega) (fun h=>by omega)
     have eh:(M++[(⟨d.hs++[h],(j:Int)⟩:aq)]).map (aq.h r.g)=M.map (aq.h r.g)++[h]:=(by rw[List.map_append,List.map_singleton,Ar.iA]);have ei:(M++[(⟨d.hs++[h],(j:Int)⟩:aq)]).map (fun e=>(e.h r.g).id)=M.map (fun e=>(e.h r.g).id)++[h.id]:=by rw[List.map_append,List.map_singleton,Ar.iA]
     refine⟨rfl,⟨Nat.le_trans b0 hk.size,fun i hi=>hi.elim (fun hi=>⟨(b1 i hi).1,Nat.lt_of_lt_of_le (b1 i hi).2 hk.size⟩) (fun hi=>⟨Nat.le_trans b0 hi.1,hi.2⟩),.inl b2,p,t,vH,vI,vA,vW,ws++[z'],?_,h4,by rw[List.map_append,<-h5,hz'.2,List.map_singleton,Cr],nx fH a2 l1,nx fI a3 l2,nx fA a4 l3,nx fW a5 l4⟩,hk.mono fun i hi _=>ai i hi⟩;have XW:∀i,i<B->¬(i=b\/i=gH\/i=gI\/i=gA\/i=gW):=fun i hi hf=>by have:=(b1 i (ai i hf)).1;omega
     exact{
      has:=a1,Su:=h3.Su,one:=h3.one,tt:=h3.tt,tok:=h3.tok,gn:=h3.gn,cn:=h3.cn
      TG:=by rw[eh,List.flatMap_append];simpa using a2
      TU:=by rw[ei,List.flatMap_append];simpa using a3
      TH:=by rw[List.map_append];simpa using a4
      TV:=by rw[List.flatMap_append];simpa[h5l]using a5
      Sl:=h3.Sl.on hk XW
      checks:=h3.checks.on hk XW
      nb:=h3.nb
      nH:=fun k hk'=>nb k (nx fH a2 l1 k hk')
      nI:=fun k hk'=>nb k (nx fI a3 l2 k hk')
      nA:=fun k hk'=>nb k (nx fA a4 l3 k hk')
      nW:=fun k hk'=>nb k (nx fW a5 l4 k hk')
      lt:=fun i hi=>Nat.lt_of_lt_of_le (h3.lt i hi) hk.size
      bZ:=fun x hx=>by
       rw[eh,List.mem_append,List.mem_singleton]at hx;exact hx.elim (h3.bZ x) (fun e=>e▸ho)
      name:=fun x hx=>by
       rw[ei,List.mem_append,List.mem_singleton]at hx;exact hx.elim (h3.name x) (fun e=>e▸iv h)
      small:=fun x hx=>by
       rw[List.mem_append,List.mem_singleton]at hx;exact hx.elim (h3.small x) (fun e=>e▸hz'.1) }
 ·have ea:Ar.add r M h now=((-1,1,8),M):=by unfold Ar.add;rw[if_pos hP]
  rw[ea];refine au (G0 b h ho now w (KG false (decide_eq_false hP))) fun w' hb=>?_;exact⟨rfl,hR.keep hb,Kp.of hb⟩
open NN.Si
section
variable{ρ:Operand->Value}{o:Oper}{w:World}
theorem wZ(w:World)(g:Nat):(Instr.fieldAt 60 (af g) 2).run Tryz.prog w=.ok (.pointer (some ⟨g,100,none⟩)) w:=by kernel_rfl
theorem xM(w:World)(g:Nat):(Instr.fieldAt 60 (af g) 3).run Tryz.prog w=.ok (.pointer (some ⟨g,101,none⟩)) w:=by kernel_rfl
theorem oU(w:World)(g j n c:Nat)(hj:j<n):(Instr.indexAt 49 (.slice (aT g) n c) (i_ j)).run Tryz.prog w=.ok (.pointer (some ⟨g,j,none⟩)) w:=by go_simp
end
end An
namespace An
open Go.RowKit Mem Sc
open Ar (aq Ru aB Ok)
open Ar (Lp)
def ot(ab:Nat)(lv:Value):Array Value:=#[af ab,lv]
def f_(w:World)(F:Nat->Prop)(b:Nat)(r:Ru)(M:List aq)(ls:List Int):Prop:=(∀i,F i->i<w.heap.size)/\∃Fa ab lv,Has w b (ot ab lv) 119/\iq w Fa ab r M/\w.ownsRow 0 3 1 lv ls.length (ls.map (Value.int .i64))/\Lp M ls/\F b/\(∀i,Fa i->F i)/\(∀i,lv.ownBlock=some i->F i)/\¬Fa b/\∀i,lv.ownBlock=some i->¬Fa i
section
variable{w w':World}{F G:Nat->Prop}{b:Nat}{r:Ru}{M:List aq}{ls:List Int}
theorem f_.on(h:f_ w F b r M ls)(k:Kp G w w')(hG:∀i,F i->¬G i):f_ w' F b r M ls:=by obtain⟨hl,Fa,ab,lv,h1,h2,h3,h4,h5,h6,h7,h8,h9⟩:=h;exact⟨fun i hi=>Nat.lt_of_lt_of_le (hl i hi) k.size,Fa,ab,lv,k.has h1 (hG b h5),h2.on k fun i hi=>hG i (h6 i hi),ax h3 k fun i hi=>hG i (h7 i hi),h4,h5,h6,h7,h8,h9⟩
theorem f_.below(h:f_ w F b r M ls)(hb:Bl w w'):f_ w' F b r M ls:=h.on (G:=fun _=>False) (Kp.of hb) fun _ _ hf=>hf
theorem f_.wide(h:f_ w F b r M ls)(hF:∀i,F i->G i)(hG:∀i,G i->i<w.heap.size):f_ w G b r M ls:=by obtain⟨_,Fa,ab,lv,h1,h2,h3,h4,h5,h6,h7,h8,h9⟩:=h;exact⟨hG,Fa,ab,lv,h1,h2,h3,h4,hF b h5,fun i hi=>hF i (h6 i hi),fun i hi=>hF i (h7 i hi),h8,h9⟩
end
end An
namespace An
open Go.RowKit Mem Sc
open Ar (aq Ru aB Ok)
open NN.Si
section
variable{ops:Array Oper}{rest:List Oper}{o:Oper}{a:Act}{w:World}{Q:Exit->Act->World->Prop}
theorem D9(hgd:o.guard=none)(x y:Operand)(ho:o.op=.store 3 x y)(q:Addr)(z:Int)(u:Value)(hx:a.eval x=.pointer (some q))(hy:a.eval y=i_ z)(hf:w.frozen? q=false)(hc:w.cell? q=some u)(hk:wpList Tryz.prog ops Q rest (a.put o.dst undef) (w.setCell q (i_ z))):wpList Tryz.prog ops Q (o::rest) a w:=
 wpList_plain hgd fun _ hK=>by
  have hs:(storeVar 3 q (i_ z)).run Tryz.prog w=.ok () (w.setCell q (i_ z)):=by go_simp
  unfold Oper.wp;rw[ml ho hx hy hs];exact hK _ _ hk
end
section
variable{C:World->Prop}{a:Act}{o:Oper}{K:Act->Prop}
end
end An
namespace An
open Go.RowKit Mem Sc
open Ar (aq Ru aB Ok Lp j9 iN)
theorem Ex(m:Nat)(hm:m<=9223372036854775807):∃k:Int,IntKind.i64.wrap ((m:Int)-1)=k/\bits .and .i64 (m:Int) k=((iN m:Nat):Int):=by
 refine⟨_,rfl,?_⟩;by_cases h0:m=0;subst h0;decide
 ·have e:IntKind.i64.wrap ((m:Int)-1)=((m-1:Nat):Int):=by rw[IntKind.wrap_i64];omega
  rw[e,NN.Cc _ _ (by omega) (by omega)];rfl
theorem r7(m:Nat)(hm:m<=9223372036854775807)(w:World):ak 126 #[i_ m] w (i_ ((iN m:Nat):Int)):=by
 obtain⟨k,h1,h2⟩:=Ex m hm;obtain⟨c,hc⟩:∃c:Int,c=((iN m:Nat):Int):=⟨_,rfl⟩;rw[<-hc]at h2|-;clear hc hm;obtain⟨mi,hm⟩:∃mi:Int,mi=(m:Int):=⟨_,rfl⟩;rw[<-hm]at h1 h2|-;clear hm;have hB:=Below.refl w.heap.size w;go_enter Tryz.func126,Tryz.ntmps126;go_wp2_with fail
 go_ret;exact⟨rfl,hB⟩
theorem A0(h:Int)(g1 g2:Bool)(q k c c2 c3:Int)(h1:decide (h<2)=g1)(hq:Int.tmod h 2=q)(h2:(q==0)=g2)(h3:IntKind.i64.wrap (h-1)=k)(h4:IntKind.i64.wrap (c2+1)=c3)(w:World)(K1:Hid (∀w',g1=false->g2=true->ak 126 #[i_ h] w' (i_ c)))(K2:Hid (∀w',g1=false->g2=false->ak 126 #[i_ k] w' (i_ c)))(K3:Hid (∀w',g1=false->g2=false->ak 126 #[i_ c] w' (i_ c2))):ak 85 #[i_ h] w (i_ (if g1 then 0 else if g2 then c else c3)):=by
 have hB:=Below.refl w.heap.size w;cases g1
 ·cases g2
  ·go_enter Tryz.func85,Tryz.ntmps85;go_wp2_with fail
   refine au (K2.out _ (by simp) (by simp)) fun v1 hb=>?_;replace hB:=ah hB hb;clear hb;go_wp2_with fail
   refine au (K3.out _ (by simp) (by simp)) fun v2 hb=>?_;replace hB:=ah hB hb;clear hb;go_wp2_with fail
   go_ret;exact⟨rfl,hB⟩
  ·go_enter Tryz.func85,Tryz.ntmps85;go_wp2_with fail
   refine au (K1.out _ (by simp) (by simp)) fun v1 hb=>?_;replace hB:=ah hB hb;clear hb;go_wp2_with fail
   go_ret;exact⟨rfl,hB⟩
 ·go_enter Tryz.func85,Tryz.ntmps85;go_wp2_with fail
  go_ret;exact⟨rfl,hB⟩
theorem JP(h:Int)(hh:h<=9223372036854775807)(h0:-9223372036854775808<=h)(w:World):ak 85 #[i_ h] w (i_ ((j9 h.toNat:Nat):Int)):=by
 by_cases hs:h<2;have:=A0 h true (Int.tmod h 2==0) _ _ 0 0 _ (decide_eq_true hs) rfl rfl rfl rfl w (h_ fun _ h=>by cases h) (h_ fun _ h=>by cases h) (h_ fun _ h=>by cases h);rw[Ar.G_ (by omega)];exact this
 ·obtain⟨n,rfl⟩:=Int.eq_ofNat_of_zero_le (by omega:0<=h);have hq:Int.tmod (n:Int) 2=((n%2:Nat):Int):=by rw[Int.tmod_eq_emod_of_nonneg (by omega)];omega
  rw[Int.toNat_natCast];by_cases he:n%2=0;have:=A0 (n:Int) false true _ _ ((iN n:Nat):Int) 0 _ (decide_eq_false hs) hq (by rw[he];rfl) rfl rfl w (h_ fun w' _ _=>r7 n (by omega) w') (h_ fun _ _ h=>by cases h) (h_ fun _ _ h=>by cases h);rw[Ar.Iz (by omega) he];exact this
  ·have e1:IntKind.i64.wrap ((n:Int)-1)=((n-1:Nat):Int):=by rw[IntKind.wrap_i64];omega
   have hc1:=Ar.pM (n-1);have hc2:=Ar.pM (iN (n-1));have e2:IntKind.i64.wrap (((iN (iN (n-1)):Nat):Int)+1)=((1+iN (iN (n-1)):Nat):Int):=by rw[IntKind.wrap_i64];omega
   have:=A0 (n:Int) false false _ _ ((iN (n-1):Nat):Int) ((iN (iN (n-1)):Nat):Int) _ (decide_eq_false hs) hq (by rw[show n%2=1 by omega];rfl) e1 e2 w (h_ fun _ _ h=>by cases h) (h_ fun w' _ _=>r7 (n-1) (by omega) w') (h_ fun w' _ _=>r7 (iN (n-1)) (by omega) w');rw[Ar.yg (by omega) (by omega)];exact this
theorem GV(w:World):ak 64 #[.pointer none] w (.pointer none):=by
 have hB:=Below.refl w.heap.size w;go_enter Tryz.func64,Tryz.ntmps64;go_wp2_with fail
 go_ret;exact⟨rfl,hB⟩
theorem qX(b ab:Nat)(w:World)(hv:w.cell? ⟨b,0,none⟩=some (af ab)):ak 64 #[af b] w (af ab):=by
 have hB:=Below.refl w.heap.size w;go_enter Tryz.func64,Tryz.ntmps64;go_wp2_with fail
 go_ret;exact⟨rfl,hB⟩
def dC(w:World)(tp ap:Value):Prop:=∀w',Bl w w'->ak 64 #[tp] w' ap
theorem p7(tp ap:Value)(n:Int)(w:World)(KH:Hid (dC w tp ap))(KL:aQ w 92 #[ap] (i_ n)):ak 57 #[tp] w (i_ n):=by
 have hB:=Below.refl w.heap.size w;go_enter Tryz.func57,Tryz.ntmps57;go_wp2_with fail
 refine au (KH.out _ hB) fun v1 hb=>?_;replace hB:=ah hB hb;clear hb;go_wp2_with fail
 refine au (KL.out _ hB) fun v2 hb=>?_;replace hB:=ah hB hb;clear hb;go_wp2_with fail
 go_ret;exact⟨rfl,hB⟩
theorem Kc(tp ap:Value)(x y:Int)(g:Bool)(w:World)(KH:Hid (dC w tp ap))(KL:aQ w 67 #[ap,i_ x,i_ y] (.bool g)):ak 31 #[tp,i_ x,i_ y] w (.bool g):=by
 have hB:=Below.refl w.heap.size w;go_enter Tryz.func31,Tryz.ntmps31;go_wp2_with fail
 refine au (KH.out _ hB) fun v1 hb=>?_;replace hB:=ah hB hb;clear hb;go_wp2_with fail
 refine au (KL.out _ hB) fun v2 hb=>?_;replace hB:=ah hB hb;clear hb;go_wp2_with fail
 go_ret;exact⟨rfl,hB⟩
theorem qO(tp ap:Value)(k:Int)(e:En)(he:e.ok)(g:Bool)(w:World)(KH:Hid (dC w tp ap))(KL:aQ w 65 #[ap,i_ k] (.tuple #[.agg (bT e),.bool g])):ak 29 #[tp,i_ k] w (.tuple #[.agg (bT e),.bool g]):=by
 have z0:=gE cZ;have z1:=gE he;go_enter Tryz.func29,Tryz.ntmps29;go_upto_region 1 with fail
 generalize hw0:World.alloc _ _=v0;have hB:Bl w v0:=dd hw0;have hR:bB v0 w.heap.size je:=by rw[<-hw0];exact gL w
 clear hw0;obtain⟨bR,hbR⟩:∃x,x=w.heap.size:=⟨_,rfl⟩;rw[<-hbR]at hR|-;have TS:Hid (w.heap.size<=bR):=h_ (by omega);clear hbR;go_wp2_with fail
 refine(KH.out _ hB).mono ?_;rintro x v1 ⟨rfl,hb⟩;replace hR:=hR.on hb;replace hB:=ah hB hb;clear hb;go_wp2_with fail
 refine(KL.out _ hB).mono ?_;rintro x v2 ⟨rfl,hb⟩;replace hR:=hR.on hb;replace hB:=ah hB hb;clear hb;go_wp2_with (with_reducible refine gX rfl _ _ rfl _ _ e rfl rfl rfl z1 hR z0 ?_)
 refine bodyPost_ret (BQ Tryz.results29 _ _ _ rfl rfl (Has.row hR _) z1) rfl ⟨rfl,below_setRow hB TS.out _⟩
section
variable{w:World}{F:Nat->Prop}{b:Nat}{r:Ru}{M:List aq}{ls:List Int}
theorem dC.nil(w:World):dC w (.pointer none) (.pointer none):=fun w' _=>GV w'
theorem f_.parts(h:f_ w F b r M ls):∃Fa ab,dC w (af b) (af ab)/\iq w Fa ab r M:=by obtain⟨hl,Fa,ab,lv,h1,h2,h3,h4,h5,h6,h7,h8,h9⟩:=h;exact⟨Fa,ab,fun w' hb=>qX b ab w' ((hb.cell (p:=⟨b,0,none⟩) (Has.lt h1)).trans (Has.cell h1 0)),h2⟩
theorem zN(h:f_ w F b r M ls):ak 57 #[af b] w (i_ (M.length:Nat)):=by obtain⟨Fa,ab,k1,k2⟩:=h.parts;exact p7 _ _ _ w (h_ k1) (h_ fun w' hb=>BP (k2.below hb))
theorem eZ(h:f_ w F b r M ls){i:Nat}{e:aq}(he:M[i]?=some e)(k:Int)(hk:k=(i:Nat)):ak 29 #[af b,i_ k] w (.tuple #[.agg (bT (bs r e)),.bool true]):=by obtain⟨Fa,ab,k1,k2⟩:=h.parts;exact qO _ _ _ _ (jy k2 he) _ w (h_ k1) (h_ fun w' hb=>Ek (k2.below hb) he k hk)
theorem pE(h:f_ w F b r M ls)(k:Int)(hk:¬(0<=k/\k<(M.length:Nat))):ak 29 #[af b,i_ k] w (.tuple #[.agg (bT lg),.bool false]):=by obtain⟨Fa,ab,k1,k2⟩:=h.parts;exact qO _ _ _ _ ee _ w (h_ k1) (h_ fun w' hb=>Dl (k2.below hb) k hk)
end
theorem ME(w:World):ak 57 #[.pointer none] w (i_ 0):=p7 _ _ _ w (h_ (dC.nil w)) (h_ fun w' _=>len_nil w')
theorem s_(k:Int)(w:World):ak 29 #[.pointer none,i_ k] w (.tuple #[.agg (bT lg),.bool false]):=qO _ _ _ _ ee _ w (h_ (dC.nil w)) (h_ fun w' _=>CF k w')
end An
namespace An
open Go.RowKit Mem Sc
open Ar (aq Ru aB Ok cp)
theorem Ix{C:World->Prop}{a:Act}{o:Oper}{K:Act->Prop}(x:Operand)(ho:o.op=.load 26 x)(g off:Nat)(hx:a.eval x=.pointer (some ⟨g,off,none⟩))(z:Nat)(hC:∀w',C w'->w'.rangeAt g off (NN.aa z).toList)(hk:K (a.put o.dst (.agg (NN.aa z)))):o.quiet Tryz.prog a C K:=
 ⟨_,fun w' hw'=>by
  unfold Oper.quietAt
  have this:(execOp a.eval o).run Tryz.prog w'=.ok (.value (.agg (NN.aa z))) w':=by
   unfold execOp;simp only[ho,hx,Sem.run_bind,run_loadAt_mid w' g off 26 (NN.aa z).toList _ (hC w' hw') Tryz.underlying26 rfl (NN.cy.trans (by rw[Array.length_toList,NN.fU])),Result.andThen_ok];rfl
  rw[this];exact⟨rfl,rfl⟩,hk⟩
theorem K8(p:Value)(x y:Int)(w:World)(KX:aQ w 103 #[p,i_ x] (.bool false)):ak 67 #[p,i_ x,i_ y] w (.bool false):=by
 have hB:=Below.refl w.heap.size w;go_enter Tryz.func67,Tryz.ntmps67;go_wp2_with fail
 refine au (KX.out _ hB) fun v1 hb=>?_;replace hB:=ah hB hb;go_wp2_with fail
 go_ret;exact⟨rfl,hB⟩
theorem P2(p:Value)(x y:Int)(w:World)(KX:aQ w 103 #[p,i_ x] (.bool true))(KY:aQ w 103 #[p,i_ y] (.bool false)):ak 67 #[p,i_ x,i_ y] w (.bool true):=by
 have hB:=Below.refl w.heap.size w;go_enter Tryz.func67,Tryz.ntmps67;go_wp2_with fail
 refine au (KX.out _ hB) fun v1 hb=>?_;replace hB:=ah hB hb;clear hb;go_wp2_with fail
 refine au (KY.out _ hB) fun v2 hb=>?_;replace hB:=ah hB hb;go_wp2_with fail
 go_ret;exact⟨rfl,hB⟩
def rn(a b k m:Nat):Bool:=decide (0<NN.Nm.cmp a b)||(NN.Nm.cmp a b==0&&decide (k<m))
theorem QB(b g n c k m:Nat)(e d:En)(he:e.ok)(hd:d.ok)(hk:k<n)(hm:m<n)(z:Int)(g1 g2:Bool)(hz:NN.Nm.cmp e.wk d.wk=z)(h1:decide (0<z)=g1)(h2:(z==0)=g2)(hw1:e.wk<NN.Nm.ai)(hw2:d.wk<NN.Nm.ai)(w:World)(hv:w.cell? ⟨b,84,none⟩=some (.slice (aT g) n c))(hr1:w.rangeAt g (k*144) (gB e))(hr2:w.rangeAt g (m*144) (gB d))(KX:aQ w 103 #[af b,i_ k] (.bool true))(KY:aQ w 103 #[af b,i_ m] (.bool true)):ak 67 #[af b,i_ k,i_ m] w (.bool (g1||(g2&&decide (k<m)))):=by
 have hB:=Below.refl w.heap.size w;have KC:zF 104 #[.agg (NN.aa e.wk),.agg (NN.aa d.wk)] (i_ z):=h_ fun w'=>by rw[<-hz];exact NN.compare _ _ hw1 hw2 w'
 have H1:=h_ (AA he hr1);have H2:=h_ (AA hd hr2);have HV:=h_ hv;clear hz hw1 hw2 hr1 hr2 hv;generalize e.wk=ew at*;generalize d.wk=dw at*;go_enter Tryz.func67,Tryz.ntmps67;go_wp2_with fail
 refine au (KX.out _ hB) fun v1 hb=>?_;replace hB:=ah hB hb;clear hb;go_wp2_with fail
 refine au (KY.out _ hB) fun v2 hb=>?_;replace hB:=ah hB hb;clear hb KX KY;have hv2:=(hB.cell (p:=⟨b,84,none⟩) (block_lt_of_cell HV.out)).trans HV.out;have XL:∀d os,(Sort.grow (redrawn v2 d) os).cell? ⟨b,84,none⟩=some (.slice (aT g) n c):=cell_regrown hv2;have q1:∀w',(∃r:Regrown,w'=Sort.grow (redrawn v2 r.d) r.os)->w'.rangeAt g (k*144+102) (NN.aa ew).toList:=fun w' hw'=>iE H1.out (hB.trans ((mT w' hw').mono hB.size)) (by rw[Array.length_toList,NN.fU];decide)
 have q2:∀w',(∃r:Regrown,w'=Sort.grow (redrawn v2 r.d) r.os)->w'.rangeAt g (m*144+102) (NN.aa dw).toList:=fun w' hw'=>iE H2.out (hB.trans ((mT w' hw').mono hB.size)) (by rw[Array.length_toList,NN.fU];decide)
 clear hv2 H1 H2 HV;go_wp2_with fail
 refine wp_region_quiet_below (by kernel_rfl) (by kernel_rfl) ?_
 repeat(first
  | (go_big_quiet_want;(with_reducible first|refine Ix _ rfl g (k*144+102) rfl ew q1 ?_|refine Ix _ rfl g (m*144+102) rfl dw q2 ?_);(simp only[Act.put,List.setIfInBounds_toArray,List.set_cons_zero,List.set_cons_succ]);go_big_quiet_on)
  | go_big_quiet_step ((go_at_call 104;exact Calls.regrown_of (KC.out _))))
 refine wpQuiet_nil ?_;intro v3 hw';have hb:=mT v3 hw';replace hB:=ah hB hb;clear hw' hb XL q1 q2 KC;by_cases Yv:k<m
 ·cases g1<;>cases g2
  all_goals
   go_wp2_with fail
   go_ret;exact⟨by simp[Yv],hB⟩
 ·cases g1<;>cases g2
  all_goals
   go_wp2_with fail
   go_ret;exact⟨by simp[Yv],hB⟩
def mR(r:Ru)(M:List aq)(x y:Int)(g:Bool):Prop:=(¬cp M x/\g=false)\/(cp M x/\¬cp M y/\g=true)\/∃(n m:Nat)(e d:aq),x=(n:Int)/\y=(m:Int)/\M[n]?=some e/\M[m]?=some d/\g=rn (fu r e.hs) (fu r d.hs) n m
theorem mR.ex(r:Ru)(M:List aq)(x y:Int):∃g,mR r M x y g:=by
 by_cases hx:cp M x
 ·by_cases hy:cp M y;obtain⟨n,e,rfl,he⟩:=hx.is;obtain⟨m,d,rfl,hd⟩:=hy.is;exact⟨_,.inr (.inr ⟨n,m,e,d,rfl,rfl,he,hd,rfl⟩)⟩;exact⟨true,.inr (.inl ⟨hx,hy,rfl⟩)⟩
 exact⟨false,.inl ⟨hx,rfl⟩⟩
theorem NM{w:World}{F:Nat->Prop}{b:Nat}{r:Ru}{M:List aq}(h:iq w F b r M)(x y:Int)(g:Bool)(hg:mR r M x y g):ak 67 #[af b,i_ x,i_ y] w (.bool g):=by
 have hn:∀k,¬cp M k->aQ w 103 #[af b,i_ k] (.bool false):=fun k hk=>h_ fun w' hb=>kZ (h.below hb) k false (by
  rw[Bool.and_eq_false_iff];by_cases h0:0<=k;exact .inr (decide_eq_false fun h1=>hk ⟨h0,h1⟩);exact .inl (decide_eq_false h0))
 have hp:∀k,cp M k->aQ w 103 #[af b,i_ k] (.bool true):=fun k hk=>h_ fun w' hb=>kZ (h.below hb) k true (by rw[Bool.and_eq_true];exact⟨decide_eq_true hk.1,decide_eq_true hk.2⟩)
 rcases hg with⟨h1,rfl⟩|⟨h1,h2,rfl⟩|⟨n,m,e,d,rfl,rfl,he,hd,rfl⟩
 exact K8 _ x y w (hn x h1);exact P2 _ x y w (hp x h1) (hn y h2);have k1:=hp _ (Ar.fF he);have k2:=hp _ (Ar.fF hd);have o1:=jy h he;have o2:=jy h hd;have l1:=(List.getElem?_eq_some_iff.1 he).1;have l2:=(List.getElem?_eq_some_iff.1 hd).1;obtain⟨_,I,p,t,v,mb,L,a1,a2,a3,a4⟩:=h;obtain⟨s1,hs1⟩:=a3.at he;obtain⟨s2,hs2⟩:=a3.at hd;obtain⟨g1,c1,rfl,hg1,hr1⟩:=a1.range hs1;obtain⟨g2,c2,e2,hg2,hr2⟩:=a1.range hs2;cases e2;exact QB b g1 L.length c1 n m (bs r e) (bs r d) o1 o2 (by rw[a3.length];exact l1) (by rw[a3.length];exact l2) _ _ _ rfl rfl rfl (si r e.hs) (si r d.hs) w (iB a1.has a1.Su) (tE hr1) (tE hr2) k1 k2
section
variable{w:World}{F:Nat->Prop}{b:Nat}{r:Ru}{M:List aq}{ls:List Int}
theorem Fw(h:f_ w F b r M ls)(x y:Int)(g:Bool)(hg:mR r M x y g):ak 31 #[af b,i_ x,i_ y] w (.bool g):=by obtain⟨Fa,ab,k1,k2⟩:=h.parts;exact Kc _ _ x y g w (h_ k1) (h_ fun w' hb=>NM (k2.below hb) x y g hg)
end
theorem P8(x y:Int)(w:World):ak 67 #[.pointer none,i_ x,i_ y] w (.bool false):=K8 _ x y w (h_ fun w' _=>yu x w')
theorem J4(x y:Int)(w:World):ak 31 #[.pointer none,i_ x,i_ y] w (.bool false):=Kc _ _ x y false w (h_ (dC.nil w)) (h_ fun w' _=>P8 x y w')
open Tp (mh)
def Nt(r:Ru)(M:List aq)(i:Nat):Nat:=fu r (M.getD i aB).hs
def Hv(r:Ru)(M:List aq):Nat->Nat->Bool:=Tp.xS (Nt r M)
theorem ef(r:Ru)(M:List aq):mh (Hv r M):=Tp.xm _
variable{r:Ru}{M:List aq}
theorem lK{i:Nat}{e:aq}(he:M[i]?=some e):Nt r M i=fu r e.hs:=by unfold Nt;rw[List.getD_eq_getElem?_getD,he];rfl
theorem vf(f:Nat->Nat)(x y:Nat):rn (f x) (f y) x y=Tp.xS f x y:=by
 unfold rn Tp.xS NN.Nm.cmp;rcases Nat.lt_trichotomy (f x) (f y)with h|h|h
 ·have h1:¬f y<f x:=by omega
  have h2:¬f x=f y:=by omega
  simp[h,h1,h2]
 simp[h]
 ·have h1:¬f x<f y:=by omega
  simp[h,h1]
theorem mR.place{x y:Nat}(hx:x<M.length)(hy:y<M.length):mR r M (x:Int) (y:Int) (Hv r M x y):=by refine .inr (.inr ⟨x,y,M[x],M[y],rfl,rfl,List.getElem?_eq_getElem hx,List.getElem?_eq_getElem hy,?_⟩);unfold Hv;rw[<-vf,lK (List.getElem?_eq_getElem hx),lK (List.getElem?_eq_getElem hy)]
theorem Bo{n:Nat}:∀{l:List Nat},l.Nodup->(∀x∈l,x<n)->l.length<=n:=by intro l hn hl;have:=List.Nodup.length_le_of_subset hn (fun x hx=>List.mem_range.2 (hl x hx));rwa[List.length_range]at this
end An
namespace Mk
open Ar (aq Ru aB Ok Row cB cp)
noncomputable def pb(p:Prop):Bool:=@decide p (Classical.propDecidable p)
variable{p:Prop}
theorem kv:pb p=true↔p:=@decide_eq_true_iff p (Classical.propDecidable p)
theorem qU:pb p=false↔¬p:=@decide_eq_false_iff_not p (Classical.propDecidable p)
noncomputable def cF(M:List aq)(S:St)(z:Int):Bool:=pb (∃k:Nat,cB M (k:Int) z/\bF S k=true)
noncomputable def gk(M:List aq)(S:St)(z:Int):Bool:=pb (∃k:Nat,(k:Int)≠z/\cB M (k:Int) z/\bF S k=true)
noncomputable def aM(M:List aq)(S:St)(z:Int):Bool:=pb (cp M z/\∀k:Nat,cB M (k:Int) z->S.said k=1/\S.out k=false)
instance Wi(M:List aq)(x:Int):Decidable (cp M x):=inferInstanceAs (Decidable (_/\_))
def sd(M:List aq)(S:St)(x:Int):Nat×Bool:=if cp M x then(S.said x.toNat,S.out x.toNat)else(0,false)
def bad(M:List aq)(S:St)(x:Int):Bool:=(sd M S x).1==2||(sd M S x).2
def bZ(M:List aq)(S:St)(x:Int):Bool:=(sd M S x).1==1&&!(sd M S x).2
section
variable{r:Ru}{M:List aq}{S:St}{z:Int}{L xs:List Int}{i:Nat}
theorem Cz(h:cp M z):sd M S z=(S.said z.toNat,S.out z.toNat):=if_pos h
theorem sy(h:¬cp M z):sd M S z=(0,false):=if_neg h
theorem Gx(h:cp M z):bad M S z=bF S z.toNat:=by unfold bad bF;rw[Cz h];exact Bool.or_comm _ _
theorem Ha:cF M S (i:Int)=true↔nt M S i:=by unfold cF;rw[kv];exact Iff.rfl
theorem mJ:cp M (i:Int)↔i<M.length:=by unfold cp;omega
theorem Qz:aM M S (i:Int)=true↔Valid M S i:=by unfold aM Valid;rw[kv,mJ]
theorem im(hM:Ok r M)(h:Row M z L){x:Int}(hx:x∈L):cp M x:=by have:=(h.up hM).2 x hx;exact⟨this.1,this.2.2⟩
theorem r8(h:Row M z L){x:Int}:cB M x z↔x∈L:=by constructor;rintro⟨L',h',hx⟩;rw[h.SQ h'];exact hx;intro hx;exact⟨L,h,hx⟩
theorem zj{x:Int}(h:cB M x z):cp M z:=by
 obtain⟨L,hL,hx⟩:=h;rcases hL.inv with⟨_,rfl⟩|⟨j,d,L',rfl,h2,_⟩
 simp at hx;exact mJ.2 (List.getElem?_eq_some_iff.1 h2).1
theorem I6(h:¬cp M z):cF M S z=false:=by unfold cF;rw[qU];rintro⟨k,h1,_⟩;exact h (zj h1)
theorem CI(h:¬cp M z):aM M S z=false:=by unfold aM;rw[qU];exact fun hh=>h hh.1
theorem JG(hM:Ok r M)(h:Row M z L):cF M S z=L.any (fun x=>bF S x.toNat):=by rw[Bool.eq_iff_iff];unfold cF;rw[kv,List.any_eq_true];constructor;rintro⟨k,h1,h2⟩;exact⟨(k:Int),(r8 h).1 h1,by rw[Int.toNat_natCast];exact h2⟩;rintro⟨x,h1,h2⟩;have:=(im hM h h1).1;exact⟨x.toNat,(r8 h).2 (by rw[Int.toNat_of_nonneg this];exact h1),h2⟩
theorem Ge(hM:Ok r M)(hz:cp M z)(h:Row M z L):aM M S z=L.all (fun x=>S.said x.toNat==1&&!S.out x.toNat):=by rw[Bool.eq_iff_iff];unfold aM;rw[kv,List.all_eq_true];constructor;rintro⟨_,h1⟩ x hx;have:=(im hM h hx).1;have:=h1 x.toNat ((r8 h).2 (by rw[Int.toNat_of_nonneg this];exact hx));rw[this.1,this.2];rfl;intro h1;refine⟨hz,fun k hk=>?_⟩;have:=h1 _ ((r8 h).1 hk);rw[Int.toNat_natCast,Bool.and_eq_true]at this;exact⟨by simpa using this.1,by simpa using this.2⟩
def Wy(M:List aq)(z:Int)(xs:List Int):Prop:=(∃L,Row M z L/\xs=L.reverse)\/(¬cp M z/\xs=[])
theorem nU(hM:Ok r M)(h:Row M z L):L.length<=M.length:=by
 have h1:=(h.up hM).1
 have h2:(L.map Int.toNat).Nodup:=by
  refine List.pairwise_map.2 (List.Pairwise.imp_of_mem (fun ha hb hab=>?_) h1);have:=(im hM h ha).1;have:=(im hM h hb).1;omega
 have:=An.Bo (n:=M.length) h2 fun x hx=>by
  obtain⟨y,hy,rfl⟩:=List.mem_map.1 hx;have:=im hM h hy;unfold cp at this;omega
 rwa[List.length_map]at this
theorem Wy.ex(hM:Ok r M)(z:Int):∃xs,Wy M z xs/\xs.length<=M.length:=by by_cases h:cp M z;obtain⟨n,rfl⟩:=Int.eq_ofNat_of_zero_le h.1;obtain⟨L,h1,_⟩:=hM.row (List.getElem?_eq_getElem (mJ.1 h));exact⟨_,.inl ⟨L,h1,rfl⟩,by rw[List.length_reverse];exact nU hM h1⟩;exact⟨[],.inr ⟨h,rfl⟩,Nat.zero_le _⟩
theorem Wy.no(h:Wy M z xs)(hz:¬cp M z):xs=[]:=by
 rcases h with⟨L,h1,rfl⟩|⟨_,h⟩
 ·rcases h1.inv with⟨_,rfl⟩|⟨j,d,L',rfl,h2,_⟩
  rfl;exact absurd (mJ.2 (List.getElem?_eq_some_iff.1 h2).1) hz
 exact h
theorem Wy.yes(h:Wy M (i:Int) xs){e:aq}(he:M[i]?=some e):∃ys,xs=(i:Int)::ys/\Wy M e.up ys:=by
 have hi:=(List.getElem?_eq_some_iff.1 he).1;rcases h with⟨L,h1,rfl⟩|⟨h1,_⟩
 ·rcases h1.inv with⟨h2,_⟩|⟨j,d,L',h2,h3,h4,rfl⟩
  omega
  ·obtain rfl:i=j:=by omega
   rw[he]at h3;cases h3;exact⟨L'.reverse,by simp,.inl ⟨L',h4,rfl⟩⟩
 exact absurd (mJ.2 hi) h1
theorem Wy.fails(hM:Ok r M)(h:Wy M z xs):cF M S z=xs.any (bad M S):=by
 rcases h with⟨L,h1,rfl⟩|⟨h1,rfl⟩
 rw[JG hM h1,List.any_reverse];rw[Bool.eq_iff_iff,List.any_eq_true,List.any_eq_true];exact exists_congr fun x=>and_congr_right fun hx=>by rw[Gx (im hM h1 hx)]
 rw[I6 h1];rfl
theorem Wy.Wj(hM:Ok r M)(h:Wy M z xs)(hz:cp M z):aM M S z=xs.all (bZ M S):=by
 rcases h with⟨L,h1,rfl⟩|⟨h1,rfl⟩
 rw[Ge hM hz h1,List.all_reverse];rw[Bool.eq_iff_iff,List.all_eq_true,List.all_eq_true];exact forall_congr' fun x=>imp_congr_right fun hx=>by unfold bZ;rw[Cz (im hM h1 hx)]
 exact absurd hz h1
end
