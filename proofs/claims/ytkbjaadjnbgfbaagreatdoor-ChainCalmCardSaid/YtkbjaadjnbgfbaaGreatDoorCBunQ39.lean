import Derived.Test.YtkbjaadjnbgfbaaGreatDoorCBunQ38
set_option maxRecDepth 100000
set_option maxHeartbeats 8000000
namespace Go.Proofs.YtkbjaadjnbgfbaaGreatDoor
namespace An
open Go.RowKit Mem Sc NN.Rz
open Ar (aq Ru aB)
theorem sc(w:World)(g o:Nat):(Instr.fieldAt 143 (.pointer (some ⟨g,o,none⟩)) 0).run Tryz.prog w=.ok (.pointer (some ⟨g,o,none⟩)) w:=by kernel_rfl
theorem uw(w:World)(g o:Nat):(Instr.fieldAt 60 (.pointer (some ⟨g,o,none⟩)) 4).run Tryz.prog w=.ok (.pointer (some ⟨g,o+102,none⟩)) w:=by kernel_rfl
theorem ot(w:World)(g:Nat):(Instr.fieldAt 30 (ah g) 4).run Tryz.prog w=.ok (.pointer (some ⟨g,66,none⟩)) w:=by kernel_rfl
variable{w:World}{g n B z b k:Nat}
theorem G6{ρ:Operand->Value}{o:Oper}{x:Operand}{off:Nat}(ho:o.op=.load 26 x)(hx:ρ x=.pointer (some ⟨g,off,none⟩))(hg:w.rangeAt g off (NN.aa n).toList):(execOp ρ o).run Tryz.prog w=.ok (.value (.agg (NN.aa n))) w:=by have:=gJ (P:=Tryz.prog) (ρ:=ρ) (o:=o) (w:=w) 26 ho hx (cs:=(NN.aa n).toList) Tryz.underlying26 rfl (NN.cg.trans (by simp[NN.fJ])) hg;rwa[Array.toArray_toList]at this
def bZ(B:Nat)(w w':World):Prop:=∀b cs,B<=b->NN.Has w b cs 26->(cs.size≠4->NN.Has w' b cs 26)/\(cs.size=4->∃cs',NN.Has w' b cs' 26/\cs'.size=4)
theorem bZ.refl(B:Nat)(w:World):bZ B w w:=fun _ cs _ h=>⟨fun _=>h,fun h4=>⟨cs,h,h4⟩⟩
theorem bZ.below{w':World}(hb:Bl w w'):bZ B w w':=fun _ cs _ h=>⟨fun _=>h.on hb,fun h4=>⟨cs,h.on hb,h4⟩⟩
theorem bZ.row{cs:Array Value}(hg:NN.Has w g cs 26)(hs:cs.size=4):bZ B w (w.setRow g (NN.aa z)):=fun b cs' _ h=>by
 by_cases e:b=g
 ·subst e
  have e2:cs'=cs:=by
   have h1:=NN.Has.out h;have h2:=NN.Has.out hg;rw[h1]at h2;injection h2 with h2
   injection h2
  subst e2;exact⟨fun h4=>absurd hs h4,fun _=>⟨_,hg.row _,rfl⟩⟩
 exact⟨fun _=>h.Ra _ _ e,fun h4=>⟨cs',h.Ra _ _ e,h4⟩⟩
def MZ(B b bH g j n c wk ob z:Nat)(bits:Int):Nat->Value->World->Prop
 | 0,u,_=>u=ah b
 | 1,u,_=>u=ah b
 | 2,u,_=>u=.pointer (some ⟨b,84,none⟩)
 | 3,u,_=>u=.slice (aW g) n c
 | 4,u,_=>u=i_ j
 | 5,u,_=>u=.pointer (some ⟨g,j*144,none⟩)
 | 6,u,_=>u=.pointer (some ⟨g,j*144,none⟩)
 | 7,u,_=>u=.pointer (some ⟨g,j*144+102,none⟩)
 | 8,u,_=>u=.agg (NN.aa wk)
 | 9,u,_=>u=.pointer (some ⟨bH,66,none⟩)
 | 10,u,_=>u=i_ bits
 | 11,u,_=>u=.agg (NN.aa ob)
 | 12,u,w=>∃b',B<=b'/\u=.slice (aW b') 2 2/\NN.Has w b' (NN.bk [wk,ob]) 26
 | 13,u,_=>u=.agg (NN.aa z)
 | 14,u,w=>∃b' cs,B<=b'/\u=ah b'/\NN.Has w b' cs 26/\cs.size=4
 | _,_,_=>b=b
theorem Qu(x y:Nat):(NN.bk [x,y]).size=8:=by simp[NN.bk,NN.fJ]
theorem Jh{bH j c wk ob:Nat}{bits:Int}:∀(i:Nat)(u:Value)(w w':World),bZ B w w'->MZ B b bH g j n c wk ob z bits i u w->MZ B b bH g j n c wk ob z bits i u w'
 | 0,_,_,_,_,h|1,_,_,_,_,h|2,_,_,_,_,h|3,_,_,_,_,h|4,_,_,_,_,h|5,_,_,_,_,h|6,_,_,_,_,h|7,_,_,_,_,h|8,_,_,_,_,h|9,_,_,_,_,h|10,_,_,_,_,h|11,_,_,_,_,h|13,_,_,_,_,h=>h
 | 12,_,_,_,hs,⟨b',h1,h2,h3⟩=>⟨b',h1,h2,(hs b' _ h1 h3).1 (by rw[Qu];decide)⟩
 | 14,_,_,_,hs,⟨b',cs,h1,h2,h3,h4⟩=>by
  obtain⟨cs',h5,h6⟩:=(hs b' cs h1 h3).2 h4;exact⟨b',cs',h1,h2,h5,h6⟩
 | _+15,_,_,_,_,_=>rfl
def Ml(B b n:Nat)(p:NN.Pr)(sp:Sp)(h:Hd)(e:En)(q:Ps):Nat->Value->World->Prop
 | 0,u,_=>u=ah b
 | 1,u,_=>u=.agg (bB e)
 | 2,u,_=>u=ah b
 | 3,u,_=>u=ah b
 | 4,u,_=>u=ah b
 | 5,u,_=>u=.agg (NN.aE p)
 | 6,u,_=>u=.agg (bo sp)
 | 7,u,_=>u=.agg (aD h)
 | 8,u,w=>∃s:Sp,u=.agg (bo s)/\s.ok/\fG (fun i=>B<=i) (fun w=>dY w 0 s q) w
 | 9,u,_=>u=i_ n
 | 10,u,_=>u=i_ n
 | 11,u,_=>u=i_ 0
 | 12,u,_=>u=i_ 0
 | _,_,_=>b=b
variable{e:En}
theorem Di{p:NN.Pr}{sp:Sp}{h:Hd}{q:Ps}{G:Nat->Prop}(hG:∀i,G i->i<B):∀(i:Nat)(u:Value)(w w':World),Kp G w w'->Ml B b n p sp h e q i u w->Ml B b n p sp h e q i u w'
 | 0,_,_,_,_,h|1,_,_,_,_,h|2,_,_,_,_,h|3,_,_,_,_,h|4,_,_,_,_,h|5,_,_,_,_,h|6,_,_,_,_,h|7,_,_,_,_,h|9,_,_,_,_,h|10,_,_,_,_,h|11,_,_,_,_,h|12,_,_,_,_,h=>h
 | 8,_,_,_,hk,⟨s,h1,h2,h3⟩=>⟨s,h1,h2,h3.on hk fun i hi hg=>absurd (hG i hg) (by omega)⟩
 | _+13,_,_,_,_,_=>rfl
def qo(B:Nat)(I:Nat->Prop)(b:Nat)(p:NN.Pr)(t:Tl)(gs:List Gt)(cs:List Ck)(room:Nat)(v:Value)(mb:Nat)(L:List Bk)(e:En)(q:Ps)(w:World):Prop:=∃I' v' s,fx w I' b p t gs cs room v' mb (L++[⟨e,s,q⟩])/\∀i,jL I' b v' mb i->jL I b v mb i\/B<=i
theorem Ia(h:br w k e):w.rangeAt k 0 (gj e):=by have:=gk (A:=[]) (cs:=gj e) (C:=[]) (o:=0) (w:=w) (b:=k) (t:=60) (by rw[List.append_nil];exact h) rfl;exact this
theorem K6{s:Sp}(h:aH w k s):w.rangeAt k 0 (gm s):=by have:=gk (A:=[]) (cs:=gm s) (C:=[]) (o:=0) (w:=w) (b:=k) (t:=141) (by rw[List.append_nil];exact h) rfl;exact this
theorem Fu(b:Nat)(h:Hd)(ho:h.ok)(now:Int)(w:World)(KG:aV w 118 #[.agg (aD h)] (.bool true))(id:List UInt8)(i32:id.length=32)(KI:aV w 119 #[.agg (aD h)] (.agg (ae id)))(KF:aV w 120 #[.pointer (some ⟨b,0,none⟩),.agg (ae id)] (.int .i64 (-1))){I:Nat->Prop}{p:NN.Pr}{t:Tl}{gs:List Gt}{cs:List Ck}{room g n c mb:Nat}{L:List Bk}(HA:Hid (∀w',Below w.heap.size w w'->fx w' I b p t gs cs room (.slice (some ⟨g,0,none⟩) n c) mb L))(x:Bk)(xe:x.e.ok)(xs:x.s.ok)(j:Nat)(hj:j<n)(HR:Hid (∀w',Below w.heap.size w w'->w'.rangeAt g (j*144) (iH x.e x.s)))(KP:aV w 120 #[.pointer (some ⟨b,0,none⟩),.agg (ae h.prev)] (.int .i64 (j:Int)))(KC:aV w 121 #[.agg (NN.aE p),.agg (bo x.s),.agg (aD h),.int .i64 now] (.int .i64 0))(hroom:room<=n):an 84 #[.pointer (some ⟨b,0,none⟩),.agg (aD h),.int .i64 now] w (.tuple #[.int .i64 (-1),.int .i64 0,.int .i64 6]):=by
 have za:=fM ho;go_enter Tryz.func84,Tryz.ntmps84;go_upto_region 1 with fail
 generalize hw0:World.alloc _ _=v0;have hB:Below w.heap.size w v0:=db hw0;have hH:aG v0 w.heap.size h:=by rw[<-hw0];exact Has.new _ _
 clear hw0;obtain⟨bH,Rn⟩:∃x,x=w.heap.size:=⟨_,rfl⟩;rw[<-Rn]at hH|-;have TX:Hid (bH=w.heap.size):=h_ Rn;clear Rn;go_wp2_with (first|fail|(with_reducible refine cC rfl _ rfl _ rfl hH za ?_))
 refine au (KG.out _ hB) fun v1 hb=>?_;replace hH:=hH.on hb;replace hB:=af hB hb;clear hb;go_wp2_with (first|fail|(with_reducible refine cC rfl _ rfl _ rfl hH za ?_))
 refine au (KI.out _ hB) fun v2 hb=>?_;replace hH:=hH.on hb;replace hB:=af hB hb;clear hb;have s1:(ae id).size=32:=by rw[jz];exact i32
 have o1:=jY id;have HW2:Hid (w.heap.size<=v2.heap.size):=h_ hB.size;go_upto_region 6 with(with_reducible refine jq rfl _ _ rfl _ (ae id) (ae id) rfl rfl rfl s1 o1 h0 (cP v2 _) rfl ?_)
 generalize hw4:World.setRow _ _ _=v3;have hb2:Below v2.heap.size v2 v3:=cG hw4;have hI:Has v3 v2.heap.size (ae id) 28:=by rw[<-hw4];exact Has.row (cP v2 _) _
 replace hH:=hH.on hb2;replace hB:=af hB hb2;clear hw4 hb2 o1;obtain⟨bI,SF⟩:∃b,b=v2.heap.size:=⟨_,rfl⟩;rw[<-SF]at hI HW2|-;clear SF;go_wp2_with (first|fail|(with_reducible refine j6 rfl _ rfl _ rfl _ hI s1 ?_))
 refine au (KF.out _ hB) fun v4 hb=>?_;replace hH:=hH.on hb;replace hI:=bY hb hI (Has.lt hI);replace hB:=af hB hb;clear hb;have rp:=hH.prev;have s2:=gU ho.1;go_wp2_with (first|fail|(with_reducible refine fQ rfl _ rfl bH 1 rfl h.prev rp s2 ?_))
 refine au (KP.out _ hB) fun v5 hb=>?_;replace hH:=hH.on hb;replace hI:=bY hb hI (Has.lt hI);replace hB:=af hB hb;clear hb;clear rp;have Sv:=HA.out _ hB;have Tg:=iv Sv.has Sv.RG;have rs:=CZ xe (HR.out _ hB);have z3:=me xs;have z4:=iW xs;have z0:=iW iU;have hp:=Sv.RG;clear Sv;have VH:Hid (w.heap.size<=v5.heap.size):=h_ hB.size
 go_upto_region 13 with(first
  | (with_reducible refine Cw rfl _ rfl g (j*144+106) rfl x.s rs z3 ?_)
  | (with_reducible refine r_ rfl _ _ rfl _ _ x.s rfl rfl rfl z4 (nu v5) z0 ?_))
 generalize hw4:World.setRow _ _ _=v6;have hb2:Below v5.heap.size v5 v6:=cG hw4;have hS:aH v6 v5.heap.size x.s:=by rw[<-hw4];exact Has.row (nu v5) _
 replace hH:=hH.on hb2;replace hI:=bY hb2 hI (Has.lt hI);replace hB:=af hB hb2;clear hw4 hb2 Tg rs;obtain⟨bS,hbS⟩:∃b,b=v5.heap.size:=⟨_,rfl⟩;rw[<-hbS]at hS VH|-;clear hbS;simp only[Act.put];have hz:=jk hp;have ra:=fZ (nZ (HA.out _ hB).has) (by rw[hz];omega);have qS:=hS.cls;have qH:=fZ hH.range (jM h);have sh:=eR ho;have UO:∀d os,Below w.heap.size w (Sort.grow (redrawn v6 d) os):=fun d os=>hB.trans ((below_regrown v6 d os).mono hB.size)
 refine wp_region_quiet_below (by kernel_rfl) (by kernel_rfl) ?_
 repeat(first
  | (go_big_quiet_want;(with_reducible first|refine AN 32 _ rfl b 0 rfl (NN.dK p) _ Tryz.underlying32 rfl (NN.fh.trans (by rw[hz])) ra ?_|refine A9 _ rfl bS rfl z4 qS ?_|refine j3 _ rfl bH 0 rfl h sh qH ?_);(simp only[Act.put,List.setIfInBounds_toArray,List.set_cons_zero,List.set_cons_succ]);go_big_quiet_on)
  | go_big_quiet_step ((go_at_call 121;exact Calls.regrown_of (KC.out _ (UO _ _)))))
 refine wpQuiet_nil ?_;intro v7 hw';have hb:=mI v7 hw';replace hH:=hH.on hb;replace hI:=bY hb hI (Has.lt hI);replace hS:=hS.on hb;replace hB:=af hB hb;clear hw' hb ra qS qH sh UO;go_upto_region 16 with fail
 have Vl:=HA.out _ hB;have WQ:∀d os,(Sort.grow (redrawn v7 d) os).cell? ⟨b,84,none⟩=some (.slice (some ⟨g,0,none⟩) n c):=cell_regrown (iv Vl.has hp);have WR:∀d os,(Sort.grow (redrawn v7 d) os).cell? ⟨b,83,none⟩=some (.int .i64 (room:Int)):=cell_regrown (Hq Vl.has hp);clear Vl;refine wp_region_quiet_below (by kernel_rfl) (by kernel_rfl) ?_
 repeat(first
  | go_big_quiet_step (fail))
 refine wpQuiet_nil ?_;intro v8 hw';have hb:=mI v8 hw';replace hH:=hH.on hb;replace hI:=bY hb hI (Has.lt hI);replace hS:=hS.on hb;replace hB:=af hB hb;clear hw' hb WQ WR;go_wp2_with fail
 go_ret3
 exact⟨rfl,hB⟩
theorem uL(b:Nat)(h:Hd)(ho:h.ok)(now:Int)(w:World)(KG:aV w 118 #[.agg (aD h)] (.bool true))(id:List UInt8)(i32:id.length=32)(KI:aV w 119 #[.agg (aD h)] (.agg (ae id)))(KF:aV w 120 #[.pointer (some ⟨b,0,none⟩),.agg (ae id)] (.int .i64 (-1))){I:Nat->Prop}{p:NN.Pr}{t:Tl}{gs:List Gt}{cs:List Ck}{room g n c mb:Nat}{L:List Bk}(HA:Hid (∀w',Below w.heap.size w w'->fx w' I b p t gs cs room (.slice (some ⟨g,0,none⟩) n c) mb L))(x:Bk)(xe:x.e.ok)(xs:x.s.ok)(j:Nat)(hj:j<n)(HR:Hid (∀w',Below w.heap.size w w'->w'.rangeAt g (j*144) (iH x.e x.s)))(KP:aV w 120 #[.pointer (some ⟨b,0,none⟩),.agg (ae h.prev)] (.int .i64 (j:Int)))(KC:aV w 121 #[.agg (NN.aE p),.agg (bo x.s),.agg (aD h),.int .i64 now] (.int .i64 0))(hroom:¬room<=n)(ob z:Nat)(KO:x9 123 #[.int .i64 h.bits] (.agg (NN.aa ob)))(KS:Hid (∀b' w',NN.Has w' b' (NN.bk [x.e.wk,ob]) 26->Calls Tryz.prog 122 #[.slice (some ⟨b',0,none⟩) 2 2] w' fun e w''=>e=.returned (.agg (NN.aa z))/\Below w'.heap.size w' w''))(q9:Ps)(q32:q9.prev.length=32)(KB:Hid (∀w',Below w.heap.size w w'->Calls Tryz.prog 125 #[.agg (NN.aE p),.agg (bo x.s),.agg (aD h)] w' fun r w''=>∃s,r=.returned (.agg (bo s))/\dY w'' w'.heap.size s q9/\Below w'.heap.size w' w''))(ht:Int)(e4:x.s.x.h=ht)(hn:n=L.length)(Te:L.length<=900)(hf:(L.map (·.e.id)).findIdx? (· == id)=none):Calls Tryz.prog 84 #[.pointer (some ⟨b,0,none⟩),.agg (aD h),.int .i64 now] w fun r w'=>∃I' v' s,r=.returned (.tuple #[.int .i64 (n:Int),.int .i64 0,.int .i64 0])/\fx w' I' b p t gs cs room v' mb (L++[⟨⟨h,id,(j:Int),ht,z⟩,s,q9⟩])/\Kp (fun i=>i=b\/i=mb\/(Value.slice (some ⟨g,0,none⟩) n c).ownBlock=some i) w w'/\(∀i,jL I' b v' mb i->jL I b (.slice (some ⟨g,0,none⟩) n c) mb i\/w.heap.size<=i):=by
 have HE:=h_ (show n=L.length/\L.length<=900/\(L.map (·.e.id)).findIdx? (· == id)=none from⟨hn,Te,hf⟩);have E4:=h_ e4;clear e4 hn Te hf;have za:=fM ho;go_enter Tryz.func84,Tryz.ntmps84;go_upto_region 1 with fail
 generalize hw0:World.alloc _ _=v0;have hB:Below w.heap.size w v0:=db hw0;have hH:aG v0 w.heap.size h:=by rw[<-hw0];exact Has.new _ _
 clear hw0;obtain⟨bH,Rn⟩:∃x,x=w.heap.size:=⟨_,rfl⟩;rw[<-Rn]at hH|-;have TX:Hid (bH=w.heap.size):=h_ Rn;clear Rn;go_wp2_with (first|fail|(with_reducible refine cC rfl _ rfl _ rfl hH za ?_))
 refine au (KG.out _ hB) fun v1 hb=>?_;replace hH:=hH.on hb;replace hB:=af hB hb;clear hb;go_wp2_with (first|fail|(with_reducible refine cC rfl _ rfl _ rfl hH za ?_))
 refine au (KI.out _ hB) fun v2 hb=>?_;replace hH:=hH.on hb;replace hB:=af hB hb;clear hb;have s1:(ae id).size=32:=by rw[jz];exact i32
 have o1:=jY id;have HW2:Hid (w.heap.size<=v2.heap.size):=h_ hB.size;go_upto_region 6 with(with_reducible refine jq rfl _ _ rfl _ (ae id) (ae id) rfl rfl rfl s1 o1 h0 (cP v2 _) rfl ?_)
 generalize hw4:World.setRow _ _ _=v3;have hb2:Below v2.heap.size v2 v3:=cG hw4;have hI:Has v3 v2.heap.size (ae id) 28:=by rw[<-hw4];exact Has.row (cP v2 _) _
 replace hH:=hH.on hb2;replace hB:=af hB hb2;clear hw4 hb2 o1;obtain⟨bI,SF⟩:∃b,b=v2.heap.size:=⟨_,rfl⟩;rw[<-SF]at hI HW2|-;clear SF;go_wp2_with (first|fail|(with_reducible refine j6 rfl _ rfl _ rfl _ hI s1 ?_))
 refine au (KF.out _ hB) fun v4 hb=>?_;replace hH:=hH.on hb;replace hI:=bY hb hI (Has.lt hI);replace hB:=af hB hb;clear hb;have rp:=hH.prev;have s2:=gU ho.1;go_wp2_with (first|fail|(with_reducible refine fQ rfl _ rfl bH 1 rfl h.prev rp s2 ?_))
 refine au (KP.out _ hB) fun v5 hb=>?_;replace hH:=hH.on hb;replace hI:=bY hb hI (Has.lt hI);replace hB:=af hB hb;clear hb;clear rp;have Sv:=HA.out _ hB;have Tg:=iv Sv.has Sv.RG;have rs:=CZ xe (HR.out _ hB);have z3:=me xs;have z4:=iW xs;have z0:=iW iU;have hp:=Sv.RG;clear Sv;have VH:Hid (w.heap.size<=v5.heap.size):=h_ hB.size
 go_upto_region 13 with(first
  | (with_reducible refine Cw rfl _ rfl g (j*144+106) rfl x.s rs z3 ?_)
  | (with_reducible refine r_ rfl _ _ rfl _ _ x.s rfl rfl rfl z4 (nu v5) z0 ?_))
 generalize hw4:World.setRow _ _ _=v6;have hb2:Below v5.heap.size v5 v6:=cG hw4;have hS:aH v6 v5.heap.size x.s:=by rw[<-hw4];exact Has.row (nu v5) _
 replace hH:=hH.on hb2;replace hI:=bY hb2 hI (Has.lt hI);replace hB:=af hB hb2;clear hw4 hb2 Tg rs;obtain⟨bS,hbS⟩:∃b,b=v5.heap.size:=⟨_,rfl⟩;rw[<-hbS]at hS VH|-;clear hbS;simp only[Act.put];have hz:=jk hp;have ra:=fZ (nZ (HA.out _ hB).has) (by rw[hz];omega);have qS:=hS.cls;have qH:=fZ hH.range (jM h);have sh:=eR ho;have UO:∀d os,Below w.heap.size w (Sort.grow (redrawn v6 d) os):=fun d os=>hB.trans ((below_regrown v6 d os).mono hB.size)
 refine wp_region_quiet_below (by kernel_rfl) (by kernel_rfl) ?_
 repeat(first
  | (go_big_quiet_want;(with_reducible first|refine AN 32 _ rfl b 0 rfl (NN.dK p) _ Tryz.underlying32 rfl (NN.fh.trans (by rw[hz])) ra ?_|refine A9 _ rfl bS rfl z4 qS ?_|refine j3 _ rfl bH 0 rfl h sh qH ?_);(simp only[Act.put,List.setIfInBounds_toArray,List.set_cons_zero,List.set_cons_succ]);go_big_quiet_on)
  | go_big_quiet_step ((go_at_call 121;exact Calls.regrown_of (KC.out _ (UO _ _)))))
 refine wpQuiet_nil ?_;intro v7 hw';have hb:=mI v7 hw';replace hH:=hH.on hb;replace hI:=bY hb hI (Has.lt hI);replace hS:=hS.on hb;replace hB:=af hB hb;clear hw' hb ra qS qH sh UO;go_upto_region 16 with fail
 have Vl:=HA.out _ hB;have WQ:∀d os,(Sort.grow (redrawn v7 d) os).cell? ⟨b,84,none⟩=some (.slice (some ⟨g,0,none⟩) n c):=cell_regrown (iv Vl.has hp);have WR:∀d os,(Sort.grow (redrawn v7 d) os).cell? ⟨b,83,none⟩=some (.int .i64 (room:Int)):=cell_regrown (Hq Vl.has hp);clear Vl;refine wp_region_quiet_below (by kernel_rfl) (by kernel_rfl) ?_
 repeat(first
  | go_big_quiet_step (fail))
 refine wpQuiet_nil ?_;intro v8 hw';have hb:=mI v8 hw';replace hH:=hH.on hb;replace hI:=bY hb hI (Has.lt hI);replace hS:=hS.on hb;replace hB:=af hB hb;clear hw' hb WQ WR;go_upto_region 18 with fail
 have YW:=h_ hB;refine ig (by kernel_rfl) (fun w'=>Below v8.heap.size v8 w') (fun i v' w'=>MZ v8.heap.size b bH g j n c x.e.wk ob z h.bits i v' w') (fun l a w'=>ib 15 14 (fun w'=>v8.heap.size<=w'.heap.size) (fun u w'=>∃b',u=.pointer (some ⟨b',0,none⟩)/\v8.heap.size<=b'/\NN.Has w' b' (NN.aa z) 26) l a w') (bZ v8.heap.size) (fun _ _=>bZ.refl _ _) (fun i v w w' _ hs h=>Jh i v w w' hs h) (by kernel_rfl) a_.drew ?_ ?_ ?_;exact fun l hl=>ib.zero hl (Below.refl v8.heap.size v8).drew.size
 ·intro i o lz a wx ho' hnl dq Z;have hC:=Z.c;have hI:=Z.i;have hi:i<16:=(Array.getElem?_eq_some_iff.1 ho').1;have Td:aG wx bH h:=bY hC hH hH.lt;have WS:=Td.bits ho;have hBx:=af YW.out hC;have Tg:=iv (HA.out _ hBx).has hp;have rw:=AH xe (ui (HR.out _ hBx));obtain rfl|rfl|rfl|rfl|rfl|rfl|rfl|rfl|rfl|rfl|rfl|rfl|rfl|rfl|rfl|rfl:i=0\/i=1\/i=2\/i=3\/i=4\/i=5\/i=6\/i=7\/i=8\/i=9\/i=10\/i=11\/i=12\/i=13\/i=14\/i=15:=by omega
  all_goals obtain rfl:=Option.some.inj ho'
  exact dx (S:=bZ v8.heap.size) (fun _ _=>bZ.refl _ _) 0 Z (ak rfl) (NN.dk rfl) (Z.old' 0) (hI.keep (av Z 0));exact dx (S:=bZ v8.heap.size) (fun _ _=>bZ.refl _ _) 1 Z (ak rfl) (cB rfl (ar Z dq 0 66)) rfl (hI.keep (av Z 1));exact dx (S:=bZ v8.heap.size) (fun _ _=>bZ.refl _ _) 2 Z (ak rfl) (de rfl (ar Z dq 1 67) (kT wx b)) rfl (hI.keep (av Z 2));exact dx (S:=bZ v8.heap.size) (fun _ _=>bZ.refl _ _) 3 Z (ak rfl) (EM rfl (ar Z dq 2 68) Tg) rfl (hI.keep (av Z 3));exact dx (S:=bZ v8.heap.size) (fun _ _=>bZ.refl _ _) 4 Z (ak rfl) (NN.dk rfl) (Z.old' 11) (hI.keep (av Z 4));exact dx (S:=bZ v8.heap.size) (fun _ _=>bZ.refl _ _) 5 Z (ak rfl) (ja rfl (ar Z dq 3 69) (ar Z dq 4 70) (Cv wx g j n c hj)) rfl (hI.keep (av Z 5));exact dx (S:=bZ v8.heap.size) (fun _ _=>bZ.refl _ _) 6 Z (ak rfl) (vC rfl (ar Z dq 5 71) (sc wx g (j*144))) rfl (hI.keep (av Z 6));exact dx (S:=bZ v8.heap.size) (fun _ _=>bZ.refl _ _) 7 Z (ak rfl) (vC rfl (ar Z dq 6 72) (uw wx g (j*144))) rfl (hI.keep (av Z 7));exact dx (S:=bZ v8.heap.size) (fun _ _=>bZ.refl _ _) 8 Z (ak rfl) (G6 rfl (ar Z dq 7 73) rw) rfl (hI.keep (av Z 8));exact dx (S:=bZ v8.heap.size) (fun _ _=>bZ.refl _ _) 9 Z (ak rfl) (de rfl (Z.old' 4) (ot wx bH)) rfl (hI.keep (av Z 9));exact dx (S:=bZ v8.heap.size) (fun _ _=>bZ.refl _ _) 10 Z (ak rfl) (NN.kU rfl (ar Z dq 9 75) WS) rfl (hI.keep (av Z 10))
  ·have hsz:=av Z 11;have Ri:=du Z hnl 15;have hpre:=hI.pre Ri hsz (by decide);exact lZ (S:=bZ v8.heap.size) 11 Z (ak rfl) (f:=123) (args:=#[a.eval (.tmp 76)]) (by kernel_rfl) (by rw[show a.eval (.tmp 76)=_ from(ar Z dq 10 76)];  exact KO.out wx) (fun w' hb=>⟨af hC hb,bZ.below hb,rfl,ib.made Ri (Nat.le_trans hpre hb.size)⟩)
  have hsz:=av Z 12;have Ri:=du Z hnl 15;have hpre:=hI.pre Ri hsz (by decide);have hb:Below wx.heap.size wx (wx.alloc (.cells (NN.bk [x.e.wk,ob]) 26)):=aY;exact A7 (S:=bZ v8.heap.size) 12 Z (ak rfl) (NN.Kv rfl (ar Z dq 8 74) (ar Z dq 11 77)) (af hC hb) (bZ.below hb) ⟨wx.heap.size,hC.size,rfl,NN.Has.new _ _⟩ (ib.made Ri (Nat.le_trans hpre hb.size))
  ·have hsz:=av Z 13;have Ri:=du Z hnl 15;have hpre:=hI.pre Ri hsz (by decide);obtain⟨b',hb1,WO,hb3⟩:=(ar Z dq 12 78);exact lZ (S:=bZ v8.heap.size) 13 Z (ak rfl) (f:=122) (args:=#[a.eval (.tmp 78)]) (by kernel_rfl) (by rw[WO];exact KS.out b' wx hb3) (fun w' hb=>⟨af hC hb,bZ.below hb,rfl,ib.made Ri (Nat.le_trans hpre hb.size)⟩)
  have hsz:=av Z 14;have Ri:=du Z hnl 15;have hpre:=hI.pre Ri hsz (by decide);have hb:Below wx.heap.size wx (wx.alloc (.cells (NN.aa 0) 26)):=aY;exact A7 (S:=bZ v8.heap.size) 14 Z (ak rfl) (NN.oQ rfl) (af hC hb) (bZ.below hb) ⟨wx.heap.size,NN.aa 0,hC.size,rfl,NN.Has.new _ _,rfl⟩ (ib.made Ri (Nat.le_trans hpre hb.size));have hsz:=av Z 15;obtain⟨b',cs',hb1,e14,hb3,hb4⟩:=(ar Z dq 14 14);exact QW (S:=bZ v8.heap.size) 15 Z (ak rfl) (NN.js rfl e14 (ar Z dq 13 79) hb3 hb4) (below_setRow hC hb1 _) (bZ.row hb3 hb4) rfl (ib.last _ hsz ⟨b',e14,hb1,hb3.row _⟩)
 intro lz a' v9 hall Z;have hC:=Z.c;obtain⟨bW,e14,hbW,hW⟩:=Z.i.2 (hall 15 (by decide));have e0:a'.eval (.tmp 0)=.pointer (some ⟨b,0,none⟩):=Z.old' 0;have e4:a'.eval (.tmp 4)=.pointer (some ⟨bH,0,none⟩):=Z.old' 4;have e9:a'.eval (.tmp 9)=.pointer (some ⟨bI,0,none⟩):=Z.old' 9;have e11:a'.eval (.tmp 11)=.int .i64 (j:Int):=Z.old' 11;have e12:a'.eval (.tmp 12)=.pointer (some ⟨bS,0,none⟩):=Z.old' 12;obtain⟨u,hu⟩:∃u:Nat->Value,∀t,u t=a'.eval (.tmp t):=⟨_,fun _=>rfl⟩;rw[eE a' 98 u Z.Re Z.defers hu];rw[<-hu]at e0 e4 e9 e11 e12 e14;clear hu Z hall;simp only[List.range,List.range.loop,List.map_cons,List.map_nil];rw[e0,e4,e9,e11,e12,e14];clear e0 e4 e9 e11 e12 e14;have YX:aG v9 bH h:=bY hC hH hH.lt;have hI9:Has v9 bI (ae id) 28:=bY hC hI (Has.lt hI);have VI:aH v9 bS x.s:=bY hC hS hS.lt;have Wn:=af hB hC;have HLT:Hid (w.heap.size<=bH/\w.heap.size<=bI/\w.heap.size<=bS):=h_ ⟨by rw[TX.out];exact Nat.le_refl _,HW2.out,VH.out⟩;clear hC hH hI hS hB hbW;have c0:=VI.c0 (z:=ht) E4;have he:(⟨h,id,(j:Int),ht,z⟩:En).ok:=⟨ho,i32⟩;have ze:=gh he;have zz:=gh cU
 go_upto_region 20 with(first
  | (with_reducible refine cC rfl _ rfl _ rfl YX za ?_)
  | (with_reducible refine j6 rfl _ rfl _ rfl _ hI9 s1 ?_)
  | (with_reducible refine NN.aJ rfl _ rfl _ rfl _ hW rfl ?_)
  | (with_reducible refine Ko rfl _ _ _ _ _ rfl ⟨h,id,(j:Int),ht,z⟩ he rfl rfl rfl rfl rfl ?_)
  | (with_reducible refine gQ rfl _ _ rfl _ _ ⟨h,id,(j:Int),ht,z⟩ rfl rfl rfl ze (gl v9) zz ?_))
 generalize hw4:World.setRow _ _ _=v10;have hb2:Below v9.heap.size v9 v10:=cG hw4;have hE:br v10 v9.heap.size ⟨h,id,(j:Int),ht,z⟩:=by rw[<-hw4];exact Has.row (gl v9) _
 have YY:=YX.on hb2;have YZ:=VI.on hb2;have Th:=af Wn hb2;have HLE:Hid (w.heap.size<=v9.heap.size):=h_ Wn.size;clear hw4 hb2 YX hI9 VI hW c0 Wn;obtain⟨bE,SP⟩:∃b,b=v9.heap.size:=⟨_,rfl⟩;rw[<-SP]at hE|-;have Y0:Hid (w.heap.size<=bE):=h_ (by rw[SP];exact HLE.out);clear SP;simp only[Act.put];have SX:=HA.out _ Th;have RD:=HA.out _ a_;generalize hF:(fun i=>i=b\/i=mb\/(Value.slice (some ⟨g,0,none⟩) n c).ownBlock=some i)=F
 have fl:∀i,F i->i<w.heap.size:=fun i hi=>by
  rw[<-hF]at hi;exact RD.R2 (.inr hi)
 have WB:=h_ hF;have FL:∀k,w.heap.size<=k->¬F k:=fun k hk hf=>by have:=fl k hf;omega
 have hz:=jk hp;clear hF RD;refine ig (by kernel_rfl) (fun w'=>Kp F v10 w') (fun i v' w'=>Ml v10.heap.size b n p x.s h (En.mk h id (j:Int) ht z) q9 i v' w') (fun l _ w'=>Ph 9 (fun w'=>Below v10.heap.size v10 w'/\fx w' I b p t gs cs room (.slice (some ⟨g,0,none⟩) n c) mb L) (fun w'=>qo w.heap.size I b p t gs cs room (.slice (some ⟨g,0,none⟩) n c) mb L (En.mk h id (j:Int) ht z) q9 w') l w') (fun w w'=>Kp F w w') (fun w' _=>Kp.refl _ w') (fun i v w w' _ hs h=>Di (fun i hi=>Nat.lt_of_lt_of_le (fl i hi) Th.size) i v w w' hs h) (by kernel_rfl) (Kp.of a_.drew) ?_ ?_ ?_;exact fun l hl=>Ph.zero hl ⟨a_.drew,SX.below a_.drew⟩
 ·intro i o lz a wx ho' hnl dq Z;have hC:=Z.c;have hI:=Z.i;have hi:i<13:=(Array.getElem?_eq_some_iff.1 ho').1;have Td:aG wx bH h:=hC.has YY (FL _ HLT.out.1);have YF:aH wx bS x.s:=hC.has YZ (FL _ HLT.out.2.2);have VG:br wx bE (En.mk h id (j:Int) ht z):=hC.has hE (FL _ Y0.out);obtain rfl|rfl|rfl|rfl|rfl|rfl|rfl|rfl|rfl|rfl|rfl|rfl|rfl:i=0\/i=1\/i=2\/i=3\/i=4\/i=5\/i=6\/i=7\/i=8\/i=9\/i=10\/i=11\/i=12:=by omega
  all_goals obtain rfl:=Option.some.inj ho'
  exact dx (S:=fun w w'=>Kp F w w') (fun w' _=>Kp.refl _ w') 0 Z (ak rfl) (NN.dk rfl) (Z.old' 0) (hI.keep (av Z 0));exact dx (S:=fun w w'=>Kp F w w') (fun w' _=>Kp.refl _ w') 1 Z (ak rfl) (Hm rfl (Z.old' 15) (Ia VG) (mA he)) rfl (hI.keep (av Z 1));exact dx (S:=fun w w'=>Kp F w w') (fun w' _=>Kp.refl _ w') 2 Z (ak rfl) (NN.dk rfl) (Z.old' 0) (hI.keep (av Z 2));exact dx (S:=fun w w'=>Kp F w w') (fun w' _=>Kp.refl _ w') 3 Z (ak rfl) (cB rfl (ar Z dq 2 90)) rfl (hI.keep (av Z 3));exact dx (S:=fun w w'=>Kp F w w') (fun w' _=>Kp.refl _ w') 4 Z (ak rfl) (de rfl (ar Z dq 3 91) (sV wx b)) rfl (hI.keep (av Z 4));have hsz:=av Z 5;have Ri:=du Z hnl 9;have hpre:=hI.pre Ri hsz (by decide);exact dx (S:=fun w w'=>Kp F w w') (fun w' _=>Kp.refl _ w') 5 Z (ak rfl) (Ci rfl (ar Z dq 4 92) (nZ hpre.2.has) hz) rfl (hI.keep hsz);exact dx (S:=fun w w'=>Kp F w w') (fun w' _=>Kp.refl _ w') 6 Z (ak rfl) (Eb rfl (Z.old' 12) (K6 YF) z3) rfl (hI.keep (av Z 6));exact dx (S:=fun w w'=>Kp F w w') (fun w' _=>Kp.refl _ w') 7 Z (ak rfl) (lP rfl (Z.old' 4) Td.range (eR ho)) rfl (hI.keep (av Z 7))
  ·have hsz:=av Z 8;have Ri:=du Z hnl 9;have hpre:=hI.pre Ri hsz (by decide)
   exact Bw (V:=fun v w'=>∃s,v=.agg (bo s)/\dY w' wx.heap.size s q9) (C:=(fun w'=>Kp F v10 w')) (S:=(fun w w'=>Kp F w w')) (R:=fun v' w'=>Ml v10.heap.size b n p x.s h (En.mk h id (j:Int) ht z) q9 8 v' w') (J:=fun _ w'=>Ph 9 (fun w'=>Below v10.heap.size v10 w'/\fx w' I b p t gs cs room (.slice (some ⟨g,0,none⟩) n c) mb L) (fun w'=>qo w.heap.size I b p t gs cs room (.slice (some ⟨g,0,none⟩) n c) mb L (En.mk h id (j:Int) ht z) q9 w') (lz.setIfInBounds 8 true) w') (ak rfl) (f:=125) (args:=#[a.eval (.tmp 93),a.eval (.tmp 94),a.eval (.tmp 95)]) (by kernel_rfl) (by
    rw[show a.eval (.tmp 93)=_ from(ar Z dq 5 93),show a.eval (.tmp 94)=_ from(ar Z dq 6 94),show a.eval (.tmp 95)=_ from(ar Z dq 7 95)];refine(KB.out wx ?_).mono ?_;exact af Th hpre.1
    ·rintro r w' ⟨s,rfl,h2,h3⟩;exact⟨_,rfl,⟨s,rfl,h2⟩,h3⟩) (fun v w' hv hb=>⟨hC.trans (Kp.of (F:=F) hb) (fun i hi _=>hi),Kp.of hb,(by
     obtain⟨s,rfl,h2⟩:=hv;exact⟨s,rfl,(by unfold Sp.ok;rw[h2.2.1];exact q32),Du h2 fun i hi _=>Nat.le_trans hC.size hi⟩),Ph.made Ri ⟨af hpre.1 hb,hpre.2.below hb⟩⟩)
  ·have hsz:=av Z 9;have hpre:=hI.1 hnl;obtain⟨s,e96,so,hJ⟩:=(ar Z dq 8 96)
   exact yZ (S:=fun w w'=>Kp F w w') 9 Z (ak rfl) (f:=124) (args:=#[a.eval (.tmp 88),a.eval (.tmp 89),a.eval (.tmp 96)]) (by kernel_rfl) (by
    rw[show a.eval (.tmp 88)=_ from(ar Z dq 0 88),show a.eval (.tmp 89)=_ from(ar Z dq 1 89),e96];obtain⟨hn,Te,hf⟩:=HE.out;refine(Jr hpre.2 ⟨En.mk h id (j:Int) ht z,s,q9⟩ he so (fun i=>v10.heap.size<=i/\i<wx.heap.size) hJ.clip (fun i hi=>hi.2) (fun i hi hq=>?_) Te hf).mono ?_;have:=fl i (by rw[<-WB.out];exact hq);have:=Th.size;omega
    ·rintro r w' ⟨v',rfl,hA',hK,hl⟩;have Vj:Kp F wx w':=hK.mono fun i hi _=>by rw[<-WB.out];exact hi
     refine⟨_,rfl,hC.trans Vj (fun i hi _=>hi),Vj,(by rw[<-hn];rfl),Ph.last hsz ⟨_,v',_,hA',fun i hi=>?_⟩⟩;have h10:=Th.size;rcases hi with(hi|hi)|rfl|rfl|hi
     exact .inl (.inl hi);exact .inr (Nat.le_trans h10 hi.1);exact .inl (.inr (.inl rfl));exact .inl (.inr (.inr (.inl rfl)))
     ·rcases hl with hl|⟨g',hl,hg⟩
      exact .inl (.inr (.inr (.inr (hl.symm.trans hi))));rw[hl]at hi;have hig:g'=i:=Option.some.inj hi;have:=hC.size;exact .inr (by omega))
  exact dx (S:=fun w w'=>Kp F w w') (fun w' _=>Kp.refl _ w') 10 Z (ak rfl) (NN.eT rfl) (ar Z dq 9 97) (hI.keep (av Z 10));exact dx (S:=fun w w'=>Kp F w w') (fun w' _=>Kp.refl _ w') 11 Z (ak rfl) (NN.eT rfl) rfl (hI.keep (av Z 11));exact dx (S:=fun w w'=>Kp F w w') (fun w' _=>Kp.refl _ w') 12 Z (ak rfl) (NN.eT rfl) rfl (hI.keep (av Z 12))
 intro lz a' v11 hall Z;have hC:=Z.c;obtain⟨I',v',s,Um,hm⟩:=Z.i.2 (hall 9 (by decide));have e6:a'.eval (.tmp 6)=.int .i64 (n:Int):=Z.got 10 _ 6 rfl (hall 10 (by decide)) rfl;have e7:a'.eval (.tmp 7)=.int .i64 0:=Z.got 11 _ 7 rfl (hall 11 (by decide)) rfl;have e8:a'.eval (.tmp 8)=.int .i64 0:=Z.got 12 _ 8 rfl (hall 12 (by decide)) rfl;obtain⟨u,hu⟩:∃u:Nat->Value,∀t,u t=a'.eval (.tmp t):=⟨_,fun _=>rfl⟩;rw[eE a' 98 u Z.Re Z.defers hu];rw[<-hu]at e6 e7 e8;clear hu Z hall;simp only[List.range,List.range.loop,List.map_cons,List.map_nil];rw[e6,e7,e8];clear e6 e7 e8;go_wp2_with fail
 go_ret3
 refine⟨I',v',s,rfl,Um,?_,hm⟩;rw[WB.out];exact(Kp.of (F:=F) Th).trans hC (fun i hi _=>hi)
end An
namespace An
open Go.RowKit Mem Sc
open Ar (aq Ru aB Ok)
variable{w:World}{F:Nat->Prop}{b:Nat}{r:Ru}{M:List aq}
theorem rX{w':World}(h:gM w F b r M)(hb:Bl w w'):gM w' (iS F w w') b r M:=(h.below hb).wide (fun _ hi=>.inl hi) (lq h.1 hb.size)
theorem jT(hA:gM w F b r M)(hM:Ok r M)(hl:M.length<=900)(hgl:r.gs.length<=1000)(hcl:r.cs.length<=1000)(hT:dM w)(h:Hd)(ho:h.ok)(now:Int):aN 84 #[ah b,.agg (aD h),i_ now] w fun e w'=>e=.returned (.tuple #[i_ (Ar.add r M h now).1.1,i_ (Ar.add r M h now).1.2.1,i_ (Ar.add r M h now).1.2.2])/\gM w' (iS F w w') b r (Ar.add r M h now).2/\Kp F w w':=by
 have KG:∀g,decide h.P=g->aV w 118 #[.agg (aD h)] (.bool g):=fun g hg=>h_ fun w' _=>by rw[<-hg];exact m_ h ho w'
 by_cases hP:h.P
 ·have Ti:=KG true (decide_eq_true hP);have KI:aV w 119 #[.agg (aD h)] (.agg (ae h.id)):=h_ fun w' hb=>mz h ho w' (hT.below hb)
  cases h1:Ar.jW r.g M h.id with
  | some i=>
   have ea:Ar.add r M h now=((((i:Nat):Int),(0:Int),(0:Int)),M):=by unfold Ar.add;rw[if_neg (fun hh=>hh hP),h1]
   rw[ea];refine(K8 b h ho now w Ti h.id (ij h) KI i (h_ fun w' hb=>?_)).mono ?_;have:=tU (hA.below hb) h.id (ij h);rwa[h1]at this
   rintro e w' ⟨rfl,hb⟩;exact⟨rfl,rX hA hb,Kp.of hb⟩
  | none=>
   have KF:aV w 120 #[ah b,.agg (ae h.id)] (i_ (-1)):=h_ fun w' hb=>by
    have:=tU (hA.below hb) h.id (ij h);rwa[h1]at this
   cases h2:Ar.jW r.g M h.prev with
   | none=>
    have ea:Ar.add r M h now=((-1,2,5),M):=(by unfold Ar.add;rw[if_neg (fun hh=>hh hP),h1];simp only[h2]);rw[ea];refine(JM b h ho now w Ti h.id (ij h) KI KF (h_ fun w' hb=>?_)).mono ?_;have:=tU (hA.below hb) h.prev ho.1;rwa[h2]at this
    rintro e w' ⟨rfl,hb⟩;exact⟨rfl,rX hA hb,Kp.of hb⟩
   | some j=>
    have KP:aV w 120 #[ah b,.agg (ae h.prev)] (i_ j):=h_ fun w' hb=>by
     have:=tU (hA.below hb) h.prev ho.1;rwa[h2]at this
    obtain⟨d,hd,_⟩:=Ar.pM h2;have hjl:=(List.getElem?_eq_some_iff.1 hd).1;have eD:M.getD j aB=d:=(by rw[List.getD_eq_getElem?_getD,hd];rfl);have hA':=hA;obtain⟨ZA,I,p,t,v,mb,L,a1,a2,a3,a4⟩:=hA';obtain⟨s,hs⟩:=a3.at hd;obtain⟨g,c,rfl,hg,hr⟩:=a1.range hs;have hx:=a1.bK _ (List.mem_of_getElem? hs);have Vm:=a3.length;have HA:Hid (∀w',Bl w w'->fx w' I b p t r.gs r.cs r.room (.slice (aW g) L.length c) mb L):=h_ fun w' hb=>a1.below hb
    have HR:Hid (∀w',Bl w w'->w'.rangeAt g (j*144) (iH (bq r d) s)):=h_ fun w' hb=>ix hr hb (by rw[rN hx.1 hx.2];omega)
    obtain⟨c1,c2⟩:=hM.chain j d hd;have q1:=kk r.p r.g d.hs d.hs.length (Nat.le_refl _);have q2:=IK r.p r.g d.hs d.hs.length (Nat.le_refl _);have q3:=nr r.p r.g d.hs d.hs.length (Nat.le_refl _)
    have KC:∀y,Ar.km r d h now=y->aV w 121 #[.agg (NN.aE p),.agg (bo s),.agg (aD h),i_ now] (i_ y):=fun y hy=>h_ fun w' hb=>by
     have SR:=HA.out w' hb;have hsp:=(SR.RV _ (List.mem_of_getElem? hs)).now;have:=K0 p SR.RG t SR.tt r.gs r.cs SR.gn SR.cn (by rw[SR.gn];exact hgl) (by rw[SR.cn];exact hcl) s (Ar.spot r d) hsp.1 hsp.2.1 hsp.2.2.1 hsp.2.2.2.1 q2 (by rw[<-hsp.2.2.1];show(gE r.p r.g d.hs d.hs.length).ts.length<=_;rw[q3];omega) h ho now w' (hT.below hb) (hsp.2.2.2.2.2.wide (Nat.le_refl _) (Nat.le_refl _)) SR.RC.now SR.checks.now;rw[F8 a2]at this;rw[<-hy];exact this
    by_cases h3:Ar.km r d h now=0
    ·by_cases h4:r.room<=M.length;have ea:Ar.add r M h now=((-1,0,6),M):=(by unfold Ar.add;rw[if_neg (fun hh=>hh hP),h1];simp only[h2,eD];rw[if_neg (fun hh=>hh h3),if_pos h4]);rw[ea];refine au (Fu b h ho now w Ti h.id (ij h) KI KF HA ⟨bq r d,s,Ar.spot r d⟩ hx.1 hx.2 j (by rw[Vm];exact hjl) HR KP (KC 0 h3) (by rw[Vm];exact h4)) fun w' hb=>?_;exact⟨rfl,rX hA hb,Kp.of hb⟩
     ·have ea:Ar.add r M h now=((((M.length:Nat):Int),(0:Int),(0:Int)),M++[⟨d.hs++[h],(j:Int)⟩]):=(by unfold Ar.add;rw[if_neg (fun hh=>hh hP),h1];simp only[h2,eD];rw[if_neg (fun hh=>hh h3),if_neg h4]);rw[ea];have hf:(L.map (·.e.id)).findIdx? (· == h.id)=none:=(by rw[a3.find];exact h1);have sx:s.x=(Ar.spot r d).x:=((a1.RV _ (List.mem_of_getElem? hs)).now).1;refine(uL b h ho now w Ti h.id (ij h) KI KF HA ⟨bq r d,s,Ar.spot r d⟩ hx.1 hx.2 j (by rw[Vm];exact hjl) HR KP (KC 0 h3) (by rw[Vm];exact h4) (NN.ofBits h.bits) (NN.Nm.cap (fe r d.hs+NN.ofBits h.bits)) (h_ fun w'=>NN.y3 h.bits w') (h_ fun b' w' hL=>NN.xR _ _ (qQ r d.hs) (NN.J2 _) _ rfl b' w' hL) (bh r.p (Ar.spot r d) h) (ij h) (h_ fun w' hb=>?_) (d.hs.length+1:Nat) (by show s.x.h=_;rw[sx];exact q1) rfl (by rw[Vm];exact hl) hf).mono ?_;have SR:=HA.out w' hb;have hsp:=(SR.RV _ (List.mem_of_getElem? hs)).now;refine(EP p SR.RG s hx.2 (Ar.spot r d).ts hsp.2.2.1 hsp.2.2.2.1 (by rw[<-hsp.2.2.1];show(gE r.p r.g d.hs d.hs.length).ts.length<=_;rw[q3];omega) (by obtain⟨b2,e⟩:=hsp.2.2.2.2.1;rw[e];intro h;cases h) (by rw[sx];show 0<=(gE r.p r.g d.hs d.hs.length).x.h;rw[q1];omega) (by rw[sx];show(gE r.p r.g d.hs d.hs.length).x.h<=_;rw[q1];omega) h ho w' (hT.below hb) (hsp.2.2.2.2.2.wide (Nat.le_refl _) (Nat.le_refl _))).mono ?_;rintro r2 w2 ⟨b',c',rfl,g1,g2,g3⟩;refine⟨_,rfl,⟨?_,rfl,rfl,g1,⟨b',rfl⟩,g2⟩,g3⟩;show xM p s.x h=xM r.p (Ar.spot r d).x h;rw[sx];exact congrArg Ps.x (Ls a2 (Ar.spot r d) h)
      ·rintro e w' ⟨I',v',s',rfl,g1,g2,g3⟩;have hK:Kp F w w':=g2.mono fun i hi _=>a4 i (.inr hi)
       refine⟨by rw[Vm],⟨lq ZA hK.size,I',p,t,v',mb,_,g1,a2,?_,fun i hi=>?_⟩,hK⟩
       ·have hp:=a3.put ⟨d.hs++[h],(j:Int)⟩ s'
        have e1:bq r ⟨d.hs++[h],(j:Int)⟩=⟨h,h.id,(j:Int),((d.hs.length+1:Nat):Int),NN.Nm.cap (fe r d.hs+NN.ofBits h.bits)⟩:=by
         unfold bq;rw[Ar.iw,AM];simp
        rw[e1,Ar.DJ]at hp;exact hp
       ·rcases g3 i hi with hi2|hi2
        exact .inl (a4 i hi2);exact .inr ⟨hi2,g1.R2 hi⟩
    have ea:Ar.add r M h now=((-1,Ar.km r d h now,8),M):=(by unfold Ar.add;rw[if_neg (fun hh=>hh hP),h1];simp only[h2,eD];rw[if_pos h3]);rw[ea];refine au (FQ b h ho now w Ti h.id (ij h) KI KF HA ⟨bq r d,s,Ar.spot r d⟩ hx.1 hx.2 j (by rw[Vm];exact hjl) HR KP (Ar.km r d h now) (by simpa using h3) (KC _ rfl)) fun w' hb=>?_;exact⟨rfl,rX hA hb,Kp.of hb⟩
 ·have ea:Ar.add r M h now=((-1,1,8),M):=by unfold Ar.add;rw[if_pos hP]
  rw[ea];refine au (u6 b h ho now w (KG false (decide_eq_false hP))) fun w' hb=>?_;exact⟨rfl,rX hA hb,Kp.of hb⟩
end An
namespace An
open Go.RowKit Mem Sc
theorem LB(p:NN.Pr)(hz:(NN.aE p).size=83)(t:Tl)(tt:p.tl=t.C)(ht:t.ok)(gs:List Gt)(cs:List Ck)(gn cn:Nat)(egn:t.gn=gn)(ecn:t.cn=cn)(hgn:gn=gs.length)(hcn:cn=cs.length)(hgl:gn<=1000)(hcl:cn<=1000)(b1 b2 g1 g2 WT:Bool)(hg1:mH (-1) gs=g1)(hg2:j1 0 cs=g2)(hall:(b1&&b2&&g1&&g2)=WT)(w:World)(hG:aI w t.ga gs)(hC:az w t.ca cs)(KP:x9 72 #[.agg (NN.aE p)] (.bool b1))(KH:x9 73 #[.agg (aD t.g)] (.bool b2)):an 37 #[.agg (NN.aE p)] w (.bool WT):=by
 have VJ:=h_ hgn;have VK:=h_ hcn;have HAG:=h_ hG;have HAC:=h_ hC;have HVG:=h_ hg1;have HVC:=h_ hg2;have R6:=h_ hall;clear hgn hcn hG hC hg1 hg2 hall;go_enter Tryz.func37,Tryz.ntmps37;go_upto_region 1 with fail
 generalize hw0:World.alloc _ _=v0;have hB:Bl w v0:=db hw0;have hP:NN.aA v0 w.heap.size p:=by rw[<-hw0];exact NN.Has.new _ _
 clear hw0;obtain⟨bP,Rv⟩:∃x,x=w.heap.size:=⟨_,rfl⟩;rw[<-Rv]at hP|-;clear Rv;have gq:=eR ht.2;go_wp2_with (first|fail|(with_reducible refine NN.dA rfl _ rfl _ rfl hP hz ?_))
 refine au (KP.out _) fun v1 hb=>?_;replace hP:=hP.on hb;replace hB:=af hB hb;clear hb;cases b1
 ·have hv:=R6.out;go_wp2_with fail
  go_ret;exact⟨by rw[<-hv];rfl,hB⟩
 have rg:=jC hP tt ht;go_wp2_with (first|fail|(with_reducible refine EK (by with_unfolding_all rfl) _ rfl bP 15 rfl t.g rg gq ?_))
 refine au (KH.out _) fun v2 hb=>?_;replace hP:=hP.on hb;replace hB:=af hB hb;clear hb rg;cases b2
 ·have hv:=R6.out;go_wp2_with fail
  go_ret;exact⟨by rw[<-hv];rfl,hB⟩
 have c5:=mQ hP tt;rw[egn]at c5;generalize hga:t.ga=ga at*;generalize t.gc=gc at*;go_wp2_with fail
 clear c5;go_loopw [3,20] (fun m i wr=>∃k:Nat,k<=gn/\i=i_ k/\∃z:Int,m=i_ z/\Hid (mH z (gs.drop k)=g1)/\NN.aA wr bP p/\Bl w wr) (fun _ i _=>gn-(intOf i).toNat)
 case atStart=>exact⟨0,by omega,rfl,_,rfl,HVG,hP,hB⟩
 case round=>
  clear hP hB;obtain⟨k,hk,rfl,z,rfl,HZ,hP,hB⟩:=hrel;by_cases hlt:k<gn
  ·obtain⟨ab,ao,hae,RH,hc⟩:=(HAG.out.below hB) (by rw[<-VJ.out];omega);subst hae
   have hd:gs.drop k=gs.getD k kn::gs.drop (k+1):=by
    have hk2:k<gs.length:=(by rw[<-VJ.out];exact hlt);rw[List.drop_eq_getElem_cons hk2,List.getD_eq_getElem?_getD,List.getElem?_eq_getElem hk2];rfl
   have q0:=hc k (by rw[<-VJ.out];omega);rw[show gs[k]'(by rw[<-VJ.out];omega)=gs.getD k kn by rw[List.getD_eq_getElem?_getD,List.getElem?_eq_getElem (by rw[<-VJ.out];omega)];rfl]at q0;have hx:=HZ.out;rw[hd]at hx;clear hd HZ;generalize gs.getD k kn=y at*;have HX:=h_ hx;clear hx hc;have hnew:=tc wr;have hb2:Bl wr ((wr.alloc (.cells #[i_ 0,i_ 0] 108)).setRow wr.heap.size (mh y)):=below_setRow aY (Nat.le_refl _) _;have hG:j7 ((wr.alloc (.cells #[i_ 0,i_ 0] 108)).setRow wr.heap.size (mh y)) wr.heap.size y:=Has.row hnew _;have hB2:=af hB hb2;have hP2:=NN.aA.on hP hb2;have c0:=hG.c0;clear hG hB hb2 hP;cases t1:decide (y.h<=z)
   ·have HZ2:Hid (mH y.h (gs.drop (k+1))=g1):=h_ (by
     have:=HX.out;rw[show mH z (y::gs.drop (k+1))=(decide (z<y.h)&&mH y.h (gs.drop (k+1)))from rfl,decide_eq_true (show z<y.h by have:=of_decide_eq_false t1;omega),Bool.true_and]at this;exact this)
    clear HX;obtain⟨yh,TN⟩:∃yh,yh=y.h:=⟨_,rfl⟩;rw[<-TN]at c0 t1 HZ2;clear TN;(go_wp2_with (with_reducible first|refine ln rfl _ rfl ab (ao+k*2) rfl y q0 ?_|refine kX rfl _ _ rfl _ y rfl rfl hnew ?_));go_roundw
    case rel=>exact⟨k+1,by omega,by go_num,yh,rfl,HZ2,hP2,hB2⟩
    case measure=>simp[intOf];omega
   ·have hgf:g1=false:=by
     rw[<-HX.out,show mH z (y::gs.drop (k+1))=(decide (z<y.h)&&mH y.h (gs.drop (k+1)))from rfl,decide_eq_false (show¬z<y.h by have:=of_decide_eq_true t1;omega),Bool.false_and]
    have hv:=R6.out;rw[hgf]at hv;clear HX;(go_wp2_with (with_reducible first|refine ln rfl _ rfl ab (ao+k*2) rfl y q0 ?_|refine kX rfl _ _ rfl _ y rfl rfl hnew ?_));go_ret;exact⟨by rw[<-hv];simp,hB2⟩
  ·obtain rfl:k=gn:=by omega
   have e:g1=true:=by
    have:=HZ.out;rw[VJ.out,List.drop_length]at this;exact this.symm
   subst e;have c6:=mZ hP tt;rw[ecn]at c6;generalize UI:t.ca=ca at*;generalize t.cc=cc at*;go_wp2_with fail
   clear c6;have hB':=hB;have hP':=hP;go_loopw [3,34] (fun m i wr=>∃k:Nat,k<=cn/\i=i_ k/\∃z:Int,m=i_ z/\Hid (j1 z (cs.drop k)=g2)/\NN.aA wr bP p/\Bl w wr) (fun _ i _=>cn-(intOf i).toNat)
   case atStart=>exact⟨0,by omega,rfl,_,rfl,HVC,hP',hB'⟩
   case round=>
    clear hP' hB' hP hB;obtain⟨k,hk,rfl,z,rfl,HZ,hP,hB⟩:=hrel;by_cases hlt:k<cn
    ·obtain⟨ab,ao,hae,RH,hc⟩:=(HAC.out.below hB) (by rw[<-VK.out];omega);subst hae
     have hd:cs.drop k=cs.getD k jy::cs.drop (k+1):=by
      have hk2:k<cs.length:=(by rw[<-VK.out];exact hlt);rw[List.drop_eq_getElem_cons hk2,List.getD_eq_getElem?_getD,List.getElem?_eq_getElem hk2];rfl
     have q0:=hc k (by rw[<-VK.out];omega);rw[show cs[k]'(by rw[<-VK.out];omega)=cs.getD k jy by rw[List.getD_eq_getElem?_getD,List.getElem?_eq_getElem (by rw[<-VK.out];omega)];rfl]at q0;have hx:=HZ.out;rw[hd]at hx;clear hd HZ;generalize cs.getD k jy=y at*;have HX:=h_ hx;clear hx hc;have z1:=mL q0.1;have z2:=pd q0.1;have z0:=pd (c:=jy) rfl;have hnew:=pU wr;have hb2:=u3 (Below.refl wr.heap.size wr) y;have hG:=uy wr y;have hB2:=af hB hb2;have hP2:=NN.aA.on hP hb2;have c0:=hG.c0;clear hG hB hb2 hP;cases t1:decide (y.h<=z)
     ·have HZ2:Hid (j1 y.h (cs.drop (k+1))=g2):=h_ (by
       have:=HX.out;rw[show j1 z (y::cs.drop (k+1))=(decide (z<y.h)&&j1 y.h (cs.drop (k+1)))from rfl,decide_eq_true (show z<y.h by have:=of_decide_eq_false t1;omega),Bool.true_and]at this;exact this)
      clear HX;obtain⟨yh,TN⟩:∃yh,yh=y.h:=⟨_,rfl⟩;rw[<-TN]at c0 t1 HZ2;clear TN;(go_wp2_with (with_reducible first|refine mG rfl _ rfl ab (ao+k*33) rfl y q0.2 z1 ?_|refine lO rfl _ _ rfl _ y rfl rfl z2 hnew z0 ?_));go_roundw
      case rel=>exact⟨k+1,by omega,by go_num,yh,rfl,HZ2,hP2,hB2⟩
      case measure=>simp[intOf];omega
     ·have hgf:g2=false:=by
       rw[<-HX.out,show j1 z (y::cs.drop (k+1))=(decide (z<y.h)&&j1 y.h (cs.drop (k+1)))from rfl,decide_eq_false (show¬z<y.h by have:=of_decide_eq_true t1;omega),Bool.false_and]
      have hv:=R6.out;rw[hgf]at hv;clear HX;(go_wp2_with (with_reducible first|refine mG rfl _ rfl ab (ao+k*33) rfl y q0.2 z1 ?_|refine lO rfl _ _ rfl _ y rfl rfl z2 hnew z0 ?_));go_ret;exact⟨by rw[<-hv];simp,hB2⟩
    ·obtain rfl:k=cn:=by omega
     have e:g2=true:=by
      have:=HZ.out;rw[VK.out,List.drop_length]at this;exact this.symm
     subst e;have hv:=R6.out;(go_wp2_with fail);go_ret;exact⟨by rw[<-hv];rfl,hB⟩
theorem PI(p:NN.Pr)(hp:p.ok)(t:Tl)(tt:p.tl=t.C)(ht:t.ok)(gs:List Gt)(cs:List Ck)(hgn:t.gn=gs.length)(hcn:t.cn=cs.length)(hgl:t.gn<=1000)(hcl:t.cn<=1000)(w:World)(hG:aI w t.ga gs)(hC:az w t.ca cs):an 37 #[.agg (NN.aE p)] w (.bool (jc p t.g gs cs)):=
 LB p (NN.ef hp) t tt ht gs cs t.gn t.cn rfl rfl hgn hcn hgl hcl _ _ _ _ _ rfl rfl rfl w hG hC (h_ (NN.lQ p)) (h_ (lQ t.g ht.2))
open Ar (aq Ok Ru aB)
structure Cm where
 h:Hd
 now:Int
def Q2:Cm:=⟨dh,0⟩
section
variable{w w':World}{k:Nat}{c:Cm}
variable{ops:Array Oper}{rest:List Oper}{o:Oper}{a:Act}{Q:Exit->Act->World->Prop}
end
def neg(cs:List Cm):Bool:=cs.any (fun c=>decide (c.now<0))
theorem Lo{w:World}{ops:Array Oper}{rest:List Oper}{o:Oper}{a:Act}{Q:Exit->Act->World->Prop}(hgd:o.guard=none)(ho:o.op=.build 32 #[(0,.const (i_ 545259519)),(1,.const (i_ 4)),(2,.const (i_ 10))])(hk:wpList Tryz.prog ops Q rest (a.put o.dst (.agg (NN.aE NN.tM))) w):wpList Tryz.prog ops Q (o::rest) a w:=NN.G5 hgd ho hk
section
variable{w:World}{k:Nat}{e:En}
theorem br.head(h:br w k e):w.rangeAt k 0 (bp e.h):=by have:=gk (A:=[]) (cs:=bp e.h) (C:=Lib.byteCells e.id++(i_ e.up::i_ e.ht::(NN.aa e.wk).toList)) (o:=0) (w:=w) (b:=k) (t:=60) h rfl;exact this
theorem br.tail(h:br w k e)(ho:e.ok):w.rangeAt k 100 (i_ e.up::i_ e.ht::(NN.aa e.wk).toList):=by have:=gk (A:=bp e.h++Lib.byteCells e.id) (cs:=i_ e.up::i_ e.ht::(NN.aa e.wk).toList) (C:=[]) (o:=100) (w:=w) (b:=k) (t:=60) (by rw[List.append_nil,List.append_assoc];exact h) (by simp[eR ho.1,gU ho.2]);exact this
theorem br.up(h:br w k e)(ho:e.ok){z:Int}(hz:Hid (e.up=z)):w.cell? ⟨k,100,none⟩=some (i_ z):=by rw[<-hz.out];exact h.tail ho 0 _ rfl
theorem br.ht(h:br w k e)(ho:e.ok){z:Int}(hz:Hid (e.ht=z)):w.cell? ⟨k,101,none⟩=some (i_ z):=by rw[<-hz.out];exact h.tail ho 1 _ rfl
theorem lR(w:World)(e:En):br ((w.alloc (.cells Tryz.zeroCells60 60)).setRow w.heap.size (bB e)) w.heap.size e:=Has.row (gl w) _
end
theorem ma(w:World)(T:TypeId)(z cs:Array Value):Bl w ((w.alloc (.cells z T)).setRow w.heap.size cs):=below_setRow aY (Nat.le_refl _) _
theorem si:∃i y,Tryz.prog.info? 3=some i/\i.zero=some y/\i.size=1/\i.bytes=8/\y.cells.size=1:=rY (by kernel_rfl) (by kernel_rfl) (by kernel_rfl)
variable{w:World}{ops:Array Oper}{rest:List Oper}{o:Oper}{a:Act}{Q:Exit->Act->World->Prop}
theorem Nx(hgd:o.guard=none)(s x:Operand)(ho:o.op=.call { callee:=.builtin .append,args:=#[s,x],argTypes:=#[49,49] })(v:Value)(n:Nat)(l:List Int)(hs:a.eval s=v)(hown:w.ownsRow 0 3 1 v n (l.map (Value.int .i64)))(g:Nat)(z:Int)(hx:a.eval x=.slice (aW g) 1 1)(hz:w.cell? ⟨g,0,none⟩=some (i_ z))(hn:n<=900)(h:∀v' w',w'.ownsRow 0 3 1 v' (n+1) ((l++[z]).map (Value.int .i64))->w.grownBy w' v.ownBlock->(v'.ownBlock=v.ownBlock\/v'.ownBlock=some w.heap.size)->wpList Tryz.prog ops Q rest (a.put o.dst v') w'):wpList Tryz.prog ops Q (o::rest) a w:=by
 obtain⟨i,y,hi,hzz,h1,h2,h3⟩:=si;refine wpList_append_own_at (P:=Tryz.prog) w hgd s x 49 ho 0 3 i y 1 8 Tryz.underlying49 hi hzz h1 h2 h3 (by decide) v n _ hs hown ⟨g,0,none⟩ 1 1 [i_ z] hx rfl (fun j u hj=>?_) (fun u hu=>?_) (by unfold maxLen;omega) (by omega) (Nat.zero_le _) (fun v' w' g1 g2 _ g4=>h v' w' (by rw[List.map_append];exact g1) g2 g4)
 ·match j,hj with
  | 0,hj=>rw[Addr.add_lit,Nat.zero_add,hz];exact hj
  | j+1,hj=>simp at hj
 ·obtain rfl:u=i_ z:=by simpa using hu
  rfl
theorem zl{base:Nat}{T:TypeId}{size:Nat}{a:Option Addr}{n c m:Nat}{xs:List Value}(h:w.ownsRow base T size (.slice a n c) m xs)(hm:0<m):m<=c:=by
 rcases h.2 with⟨_,h0⟩|⟨g,c2,cur,e,_,_,h3,_⟩
 omega;cases e;exact h3
theorem Ny(hgd:o.guard=none)(s x:Operand)(ho:o.op=.call { callee:=.builtin .append,args:=#[s,x],argTypes:=#[68,68] })(hty:o.type=68)(base g:Nat)(y:Hd)(hy:y.ok)(hs:a.eval s=.slice (aW g) 1 1)(hg:Has w g (aD y) 30)(hbg:base<=g)(hbase:base<=w.heap.size)(ad:Option Addr)(m c:Nat)(z:List Hd)(hx:a.eval x=.slice ad m c)(hz:z.length=m)(hnil:ad=none->m=0/\c=0)(hL:aM w ad z)(hn:m<=900)(h:∀WU c' w',aM w' WU (y::z)->WU≠none->w.grownBy w' (some g)->m+1<=c'->wpList Tryz.prog ops Q rest (a.put o.dst (.slice WU (m+1) c')) w'):wpList Tryz.prog ops Q (o::rest) a w:=by
 obtain⟨i,y0,hi,hzz,h1,h2,h3⟩:=Co;have hown:w.ownsRow base 30 68 (.slice (aW g) 1 1) 1 (bp y):=⟨by rw[eR hy],.inr ⟨g,1,aD y,rfl,hbg,hg,Nat.le_refl _,by decide,fM hy,by show((bp y).toArray.toList).take 68=_;rw[<-eR hy];simp⟩⟩;by_cases h0:0<m
 ·obtain⟨ab,ao,rfl,hlt,hc⟩:=hL (by omega);have hok:∀q∈z,q.ok:=fun q hq=>by obtain⟨i,hi,e⟩:=List.mem_iff_getElem.1 hq;rw[<-e];exact(hc i hi).1
  refine wpList_append_own_at (P:=Tryz.prog) w hgd s x 68 ho base 30 i y0 68 96 Tryz.underlying68 hi hzz h1 h2 h3 (by decide) _ 1 _ hs hown ⟨ab,ao,none⟩ m c (iC z) hx ?_ (fun j u hj=>?_) (fun u hu=>?_) (by unfold maxLen;omega) (by omega) hbase (fun v' w' g1 g2 _ _=>?_);rw[<-hz];exact tI bp 68 z (fun q hq=>eR (hok q hq))
  ·rw[Addr.add_lit]
   exact Aw bp 68 (by decide) z (fun q hq=>eR (hok q hq)) (fun i q hi=>by
    obtain⟨e1,e2⟩:=List.getElem?_eq_some_iff.1 hi;rw[<-e2];exact(hc i e1).2) j u hj
  exact mE bp z (fun q _=>oW q) u hu
  ·have hok2:∀q∈y::z,q.ok:=fun q hq=>by
    rcases List.mem_cons.1 hq with rfl|hq
    exact hy;exact hok q hq
   obtain⟨a',c',rfl,h4⟩:=Ht (hs:=y::z) (n:=1+m) g1 (by simp;omega) hok2;rw[Nat.add_comm];exact h a' c' w' h4 (fun e=>by obtain⟨_,_,e2,_⟩:=h4 (by simp);rw[e]at e2;cases e2) g2 (by have:=zl g1 (by omega);omega)
 ·obtain rfl:z=[]:=List.eq_nil_of_length_eq_zero (by omega);have hm0:m=0:=by omega
  have WV:aM w (aW g) [y]:=fun _=>⟨g,0,rfl,Has.lt hg,fun i hi=>by
   obtain rfl:i=0:=by simpa using hi
   refine⟨hy,?_⟩;have:=gk (A:=[]) (cs:=bp y) (C:=[]) (o:=0) (w:=w) (b:=g) (t:=30) (by rw[List.append_nil];exact hg) rfl;exact this⟩
  cases ad with
  | none=>
   obtain⟨_,rfl⟩:=hnil rfl;subst hm0;have hrun:=run_append_owned_none (P:=Tryz.prog) (w:=w) base 68 68 30 i 68 Tryz.underlying68 hi _ 1 _ hown;refine wpList_plain hgd fun _ hK=>?_
   unfold Oper.wp execOp;simp only[ho,hty,resolve,invoke,builtin,Sem.run_bind,Sem.run_pure,Result.andThen_ok,List.map_toArray,List.map_cons,List.map_nil,hs,hx,hrun];exact hK _ _ (h _ _ w WV (fun e=>by cases e) ⟨rfl,rfl,rfl,Nat.le_refl _,fun _ _ _=>rfl⟩ (Nat.le_refl _))
  | some ad=>
   subst hm0;refine wpList_append_own_at (P:=Tryz.prog) w hgd s x 68 ho base 30 i y0 68 96 Tryz.underlying68 hi hzz h1 h2 h3 (by decide) _ 1 _ hs hown ad 0 c [] hx rfl (fun j u hj=>by simp at hj) (fun u hu=>by cases hu) (by unfold maxLen;omega) (by omega) hbase (fun v' w' g1 g2 _ _=>?_);obtain⟨a',c',rfl,h4⟩:=Ht (hs:=[y]) (n:=1+0) (by rw[List.append_nil]at g1;show w'.ownsRow _ _ _ _ _ (bp y++[]);rw[List.append_nil];exact g1) rfl (fun q hq=>(List.mem_singleton.1 hq).symm▸hy);exact h a' c' w' h4 (fun e=>by obtain⟨_,_,e2,_⟩:=h4 (by simp);rw[e]at e2;cases e2) g2 (by have:=zl g1 (by omega);omega)
end An
namespace An
open Go.RowKit Mem Sc NN.Rz
open Ar (aq Ru aB)
def ir(w:World)(B:Nat)(F:Nat->Prop)(b:Nat)(r:Ru)(M:List aq):Prop:=
 B<=w.heap.size/\(∀i,F i->B<=i/\i<w.heap.size)/\F b/\∃p t vH vI vA vW ws,tV w (fun i=>i<B) b p t r.gs r.cs r.room vH vI vA vW (M.map (aq.h r.g)) (M.map fun e=>(e.h r.g).id) (M.map aq.up) ws/\Alike p t r/\ws=M.map (fun e=>fe r e.hs)/\(∀i,vH.ownBlock=some i->F i)/\(∀i,vI.ownBlock=some i->F i)/\(∀i,vA.ownBlock=some i->F i)/\(∀i,vW.ownBlock=some i->F i)
section
variable{w w':World}{B:Nat}{F G:Nat->Prop}{b:Nat}{r:Ru}{M:List aq}
theorem ir.on(h:ir w B F b r M)(k:Kp G w w')(hG:∀i,F i->¬G i)(hB:∀i,G i->B<=i):ir w' B F b r M:=by
 obtain⟨h0,h1,h2,p,t,vH,vI,vA,vW,ws,h3,h4,h5,g1,g2,g3,g4⟩:=h;refine⟨Nat.le_trans h0 k.size,fun i hi=>⟨(h1 i hi).1,Nat.lt_of_lt_of_le (h1 i hi).2 k.size⟩,h2,p,t,vH,vI,vA,vW,ws,h3.on k ?_,h4,h5,g1,g2,g3,g4⟩;rintro i (hi|rfl|hi|hi|hi|hi);exact fun hg=>absurd (hB i hg) (by omega)
 exact hG _ h2;exact hG _ (g1 i hi);exact hG _ (g2 i hi);exact hG _ (g3 i hi);exact hG _ (g4 i hi)
theorem ir.below(h:ir w B F b r M)(hb:Bl w w'):ir w' B F b r M:=h.on (G:=fun _=>False) (Kp.of hb) (fun _ _ hf=>hf) fun _ hf=>hf.elim
theorem ir.wide(h:ir w B F b r M)(hF:∀i,F i->G i)(hG:∀i,G i->B<=i/\i<w.heap.size):ir w B G b r M:=by obtain⟨h0,_,h2,p,t,vH,vI,vA,vW,ws,h3,h4,h5,g1,g2,g3,g4⟩:=h;exact⟨h0,hG,hF _ h2,p,t,vH,vI,vA,vW,ws,h3,h4,h5,fun i hi=>hF _ (g1 i hi),fun i hi=>hF _ (g2 i hi),fun i hi=>hF _ (g3 i hi),fun i hi=>hF _ (g4 i hi)⟩
end
variable{w:World}{B b room base n:Nat}{cs:Array Value}{T:TypeId}{u vH vI vA vW v:Value}
theorem xw(h:gv B cs T u w):w.ownsRow 0 T cs.size u 1 cs.toList:=by obtain⟨g,rfl,h1,h2⟩:=h;exact⟨by simp,.inr ⟨g,1,cs,rfl,Nat.zero_le _,h2,Nat.le_refl _,by decide,by simp,by rw[Nat.one_mul,List.take_of_length_le (by simp)]⟩⟩
theorem pG(h:gv B cs T u w):∀i,u.ownBlock=some i->B<=i/\i<w.heap.size:=by obtain⟨g,rfl,h1,h2⟩:=h;intro i hi;cases hi;exact⟨h1,h2.lt⟩
theorem Hc(p:NN.Pr)(hp:p.ok)(h1:p.one)(t:Tl)(tt:p.tl=t.C)(ht:t.ok)(gs:List Gt)(cs:List Ck)(hgn:t.gn=gs.length)(hcn:t.cn=cs.length)(room:Int)(w0 w:World)(h0:Bl w0 w)(hG:aI w0 t.ga gs)(hC:az w0 t.ca cs):aN 39 #[.agg (NN.aE p),i_ room] w fun e w'=>∃b,e=.returned (ah b)/\ir w' w0.heap.size (fun i=>w.heap.size<=i/\i<w'.heap.size) b ⟨p,t.g,gs,cs,dF room⟩ [aB]/\Bl w w':=by
 refine(wJ p hp t tt ht t.g rfl ht.2 t.g.id (ij _) room w (h_ fun w' _=>iZ t.g ht.2 w')).mono ?_;rintro e w' ⟨u,rfl,⟨b,cs',rfl,hb0,hh,vH,vI,vA,vW,rfl,rH,rI,rA,z,hz,rW⟩,hb⟩;have sH:=xw rH;have sI:=xw rI;have sA:=xw rA;have sW:=xw rW;rw[fM ht.2]at sH;rw[show(ae t.g.id).size=32 by simp[ae,ij]]at sI;rw[NN.fJ]at sW;have hs0:=h0.size;have hb2:Bl w0 w':=h0.trans (hb.mono hs0);have no:∀{cs:Array Value}{T:TypeId}{u:Value},gv w.heap.size cs T u w'->∀k,u.ownBlock=some k->¬k<w0.heap.size:=fun hr k hk hlt=>absurd (pG hr k hk).1 (by omega)
 refine⟨b,rfl,⟨Nat.le_trans hs0 hb.size,fun i hi=>⟨Nat.le_trans hs0 hi.1,hi.2⟩,⟨hb0,hh.lt⟩,p,t,vH,vI,vA,vW,[z],?_,⟨rfl,rfl,rfl,rfl,rfl,rfl⟩,by rw[hz.2];rfl,pG rH,pG rI,pG rA,pG rW⟩,hb⟩
 exact{
  has:=hh,RG:=hp,one:=h1,tt:=tt,tok:=ht,gn:=hgn,cn:=hcn
  SG:=by simpa[Ar.oz,aB,aD]using sH
  SV:=by simpa[Ar.oz,aB,il]using sI
  SH:=by simpa[aB]using sA
  SW:=by simpa using sW
  RC:=Lr (hG.below hb2) fun h0 ad ha=>by
   obtain⟨ab,ao,ha',hlt,_⟩:=hG h0;rw[ha']at ha;cases ha;exact hlt
  checks:=KJ (hC.below hb2) fun h0 ad ha=>by
   obtain⟨ab,ao,ha',hlt,_⟩:=hC h0;rw[ha']at ha;cases ha;exact hlt
  nb:=by omega
  nH:=no rH,nI:=no rI,nA:=no rA,nW:=no rW
  lt:=fun i hi=>Nat.lt_of_lt_of_le hi hb2.size
  bK:=fun h hh=>by
   obtain rfl:h=t.g:=by simpa[Ar.oz,aB]using hh
   exact ht.2
  name:=fun l hl=>by
   obtain rfl:l=t.g.id:=by simpa[Ar.oz,aB]using hl
   exact ij _
  small:=fun x hx=>by
   obtain rfl:x=z:=by simpa using hx
   exact hz.1 }
variable{p:NN.Pr}
theorem A0(h:Has w b (iu p vH vI vA vW room) 72)(hp:p.ok):w.cell? ⟨b,84,none⟩=some vI:=by rw[Has.cell h 84];unfold iu A1;rw[List.getElem?_toArray,List.getElem?_append_right (by rw[jk hp];omega),jk hp];rfl
theorem kM{size:Nat}{A cs C:List Value}(h:w.ownsRow base T size v n (A++(cs++C)))(hn:0<n):∃g c,v=.slice (aW g) n c/\w.rangeAt g A.length cs:=by
 rcases h.2 with⟨_,h0⟩|⟨g,c,cur,rfl,_,h2,_,_,_,h6⟩
 omega
 ·refine⟨g,c,rfl,fun j u hu=>?_⟩
  have e:(cur.toList.take (n*size))[A.length+j]?=some u:=by
   rw[h6,List.getElem?_append_right (by omega),Nat.add_sub_cancel_left,List.getElem?_append_left (List.getElem?_eq_some_iff.1 hu).1];exact hu
  rw[Has.cell (show Has w g cur T from h2),<-Array.getElem?_toList];rw[List.getElem?_take]at e;split at e;exact e;cases e
theorem pz{α:Type}(f:α->List Value)(size:Nat):∀(l:List α)(_:∀x∈l,(f x).length=size)(i:Nat)(x:α),l[i]?=some x->∃A C,l.flatMap f=A++(f x++C)/\A.length=i*size
 | y::l,_,0,x,h=>⟨[],l.flatMap f,by cases h;simp,by simp⟩
 | y::l,hf,i+1,x,h=>by
  obtain⟨A,C,h1,h2⟩:=pz f size l (fun x hx=>hf x (List.mem_cons_of_mem _ hx)) i x (by simpa using h);exact⟨f y++A,C,by simp[h1],by rw[List.length_append,hf y List.mem_cons_self,h2,Nat.add_mul];omega⟩
theorem Kq{ids:List (List UInt8)}(h:w.ownsRow 0 28 32 v ids.length (ids.flatMap Lib.byteCells))(h32:∀l∈ids,l.length=32){k:Nat}{x:List UInt8}(hx:ids[k]?=some x):∃g c,v=.slice (aW g) ids.length c/\w.rangeAt g (k*32) (Lib.byteCells x):=by obtain⟨A,C,e,hA⟩:=pz Lib.byteCells 32 ids (fun l hl=>by rw[Lib.byteCells_length,h32 l hl]) k x hx;rw[e]at h;have:=(List.getElem?_eq_some_iff.1 hx).1;obtain⟨g,c,e1,e2⟩:=kM h (by omega);rw[hA]at e2;exact⟨g,c,e1,e2⟩
def idx(ids:List (List UInt8))(id:List UInt8):Int:=match ids.findIdx? (· == id)with|some i=>(i:Int)|none=>-1
theorem sD(p:NN.Pr)(hp:p.ok)(vH vI vA vW:Value)(room b:Nat)(ids:List (List UInt8))(n:Nat)(hn:n=ids.length)(hl:n<=4611686018427387904)(hpos:0<n)(h32:∀l∈ids,l.length=32)(id:List UInt8)(i32:id.length=32)(z:Int)(hz:idx ids id=z)(w:World)(hA:Has w b (iu p vH vI vA vW room) 72)(hI:w.ownsRow 0 28 32 vI ids.length (ids.flatMap Lib.byteCells)):an 77 #[ah b,.agg (ae id)] w (i_ z):=by
 obtain⟨x0,hx0⟩:∃x,ids[0]?=some x:=⟨_,List.getElem?_eq_getElem (by rw[<-hn];exact hpos)⟩;obtain⟨g,c,rfl,hr0⟩:=Kq hI h32 hx0;clear hr0 hx0;rw[<-hn]at hA hI;have HN:=h_ hn;have HZ:=h_ hz;have Tg:=A0 hA hp;have s1:(ae id).size=32:=by rw[jz];exact i32
 have HI:=h_ fun(w':World)(hb:Bl w w')=>ax hI (Kp.of (F:=fun _=>False) hb) fun _ _ hf=>hf
 clear hn hz hI hA;go_enter Tryz.func77,Tryz.ntmps77;go_upto_region 1 with fail
 generalize hw0:World.alloc _ _=v0;have hB:Bl w v0:=db hw0;have hX:Has v0 w.heap.size (ae id) 28:=by rw[<-hw0];exact Has.new _ _
 have Tg:v0.cell? ⟨b,84,none⟩=some (.slice (aW g) n c):=by rw[<-Tg];exact World.cell?_of_block (hB.block b (block_lt_of_cell Tg))
 clear hw0;obtain⟨bX,hbX⟩:∃x,x=w.heap.size:=⟨_,rfl⟩;rw[<-hbX]at hX|-;clear hbX;have o1:=jY id;have ng:Hid (∀d os,(Sort.grow (redrawn v0 d) os).cell? ⟨b,84,none⟩=some (.slice (aW g) n c)):=h_ (cell_regrown Tg);go_wp2_with fail
 go_loopw [12] (fun i wr=>∃k:Nat,k<=n/\i=i_ k/\Hid (ids.findIdx? (· == id)=((ids.drop k).findIdx? (· == id)).map (· + k))/\Has wr bX (ae id) 28/\Bl w wr) (fun i _=>n-(intOf i).toNat)
 case atStart=>exact⟨0,by omega,rfl,h_ (by simp),hX,hB⟩
 case round=>
  clear hX hB Tg;obtain⟨k,hk,rfl,HF,hX,hB⟩:=hrel;by_cases hlt:k<n
  ·obtain⟨x,hx⟩:∃x,ids[k]?=some x:=⟨_,List.getElem?_eq_getElem (by rw[<-HN.out];exact hlt)⟩;have x32:x.length=32:=h32 x (List.mem_of_getElem? hx);have hI:=HI.out _ hB;rw[HN.out]at hI;obtain⟨g2,c2,e2,hr⟩:=Kq hI h32 hx;obtain rfl:g=g2:=by cases e2;rfl
   clear e2 hI;have th:=gU x32
   have hd:ids.drop k=x::ids.drop (k+1):=by
    rw[List.drop_eq_getElem_cons (by rw[<-HN.out];exact hlt)];rw[List.getElem?_eq_getElem (by rw[<-HN.out];exact hlt)]at hx;cases hx;rfl
   have hF:=HF.out;rw[hd,List.findIdx?_cons]at hF;have HR:=h_ hr;clear hr hx hd;cases he:(x==id)
   ·have qn:=pH x id x32 i32 false he;rw[he]at hF
    have S6:Hid (ids.findIdx? (· == id)=((ids.drop (k+1)).findIdx? (· == id)).map (· + (k+1))):=h_ (by
     rw[hF,if_neg Bool.false_ne_true,Option.map_map];exact congrArg (fun f=>Option.map f _) (funext fun i=>by show i+1+k=i+(k+1);omega))
    clear hF he;have ht:=HR.out;have sx:(ae x).size=32:=(by rw[jz];exact x32);have ox:=jY x
    go_upto_region 4 with(first
     | (with_reducible refine fQ rfl _ rfl g (k*32) rfl x ht th ?_)
     | (with_reducible refine jq rfl _ _ rfl _ (ae x) (ae x) rfl rfl rfl sx ox h0 (cP wr _) rfl ?_))
    generalize hw4:World.setRow _ _ _=v3;have hb2:Bl wr v3:=cG hw4;have hE:Has v3 wr.heap.size (ae x) 28:=(by rw[<-hw4];exact Has.row (cP wr _) _);replace hX:=bY hb2 hX hX.lt;replace hB:=af hB hb2;clear hw4 hb2 ht;obtain⟨bE,SP⟩:∃b,b=wr.heap.size:=⟨_,rfl⟩;rw[<-SP]at hE|-;clear SP
    go_wp2_with (first
     | (with_reducible refine j6 rfl _ rfl _ rfl _ hE sx ?_)
     | (with_reducible refine j6 rfl _ rfl _ rfl _ hX s1 ?_))
    go_roundw
    case rel=>exact⟨k+1,by omega,rfl,S6,hX,hB⟩
    case measure=>simp[intOf];omega
   ·have qn:=pH x id x32 i32 true he
    have Y1:z=(k:Int):=by
     rw[<-HZ.out];unfold idx;rw[hF,he];simp
    subst Y1;clear hF he;have ht:=HR.out;have sx:(ae x).size=32:=(by rw[jz];exact x32);have ox:=jY x
    go_upto_region 4 with(first
     | (with_reducible refine fQ rfl _ rfl g (k*32) rfl x ht th ?_)
     | (with_reducible refine jq rfl _ _ rfl _ (ae x) (ae x) rfl rfl rfl sx ox h0 (cP wr _) rfl ?_))
    generalize hw4:World.setRow _ _ _=v3;have hb2:Bl wr v3:=cG hw4;have hE:Has v3 wr.heap.size (ae x) 28:=(by rw[<-hw4];exact Has.row (cP wr _) _);replace hX:=bY hb2 hX hX.lt;replace hB:=af hB hb2;clear hw4 hb2 ht;obtain⟨bE,SP⟩:∃b,b=wr.heap.size:=⟨_,rfl⟩;rw[<-SP]at hE|-;clear SP
    go_wp2_with (first
     | (with_reducible refine j6 rfl _ rfl _ rfl _ hE sx ?_)
     | (with_reducible refine j6 rfl _ rfl _ rfl _ hX s1 ?_))
    go_ret;exact⟨rfl,hB⟩
  ·have Y1:z = -1:=by
    rw[<-HZ.out];unfold idx;rw[HF.out,List.drop_eq_nil_of_le (by rw[<-HN.out];omega)];rfl
   subst Y1;go_wp2_with fail
   go_ret;exact⟨rfl,hB⟩
theorem uB(r:Ru)(M:List aq)(id:List UInt8):idx (M.map fun e=>(e.h r.g).id) id=Io (Ar.jW r.g M id):=by unfold idx Io Ar.jW;rw[List.findIdx?_map];rfl
variable{F:Nat->Prop}{r:Ru}{M:List aq}
theorem vt(h:ir w B F b r M)(hpos:0<M.length)(hl:M.length<=1000)(id:List UInt8)(i32:id.length=32):an 77 #[ah b,.agg (ae id)] w (i_ (Io (Ar.jW r.g M id))):=by
 obtain⟨_,_,_,p,t,vH,vI,vA,vW,ws,h3,_⟩:=h;have hz:=uB r M id;have hn:M.length=(M.map fun e=>(e.h r.g).id).length:=by rw[List.length_map]
 have h32:=h3.name;have hA:=h3.has;have hI:=h3.SV;have hp:=h3.RG;clear h3;generalize(M.map fun e=>(e.h r.g).id)=ids at*;generalize Io (Ar.jW r.g M id)=z at*;generalize M.length=n at*;have hl2:n<=4611686018427387904:=Nat.le_trans hl (by decide);exact sD p hp vH vI vA vW r.room b ids n hn hl2 hpos h32 id i32 z hz w hA hI
open Ar (Ok Row)
theorem Ns{ops:Array Oper}{rest:List Oper}{o:Oper}{a:Act}{Q:Exit->Act->World->Prop}(hgd:o.guard=none)(s x:Operand)(ho:o.op=.call { callee:=.builtin .append,args:=#[s,x],argTypes:=#[49,49] })(hty:o.type=49)(base g:Nat)(z:Int)(hs:a.eval s=.slice (aW g) 1 1)(hg:Has w g #[i_ z] 3)(hbg:base<=g)(hbase:base<=w.heap.size)(v:Value)(m:Nat)(l:List Int)(hx:a.eval x=v)(hv:w.ownsRow base 3 1 v m (l.map (Value.int .i64)))(hn:m<=900)(h:∀v' w',w'.ownsRow base 3 1 v' (m+1) ((z::l).map (Value.int .i64))->w.grownBy w' (some g)->wpList Tryz.prog ops Q rest (a.put o.dst v') w'):wpList Tryz.prog ops Q (o::rest) a w:=by
 obtain⟨i,y0,hi,hzz,h1,h2,h3⟩:=si;have hown:w.ownsRow base 3 1 (.slice (aW g) 1 1) 1 [i_ z]:=⟨rfl,.inr ⟨g,1,#[i_ z],rfl,hbg,hg,Nat.le_refl _,by decide,rfl,rfl⟩⟩;obtain⟨hlen,⟨rfl,hm0⟩|⟨g2,c,cur,rfl,q1,q2,q3,q4,q5,q6⟩⟩:=hv
 ·subst hm0;obtain rfl:l=[]:=by simpa using hlen
  have hrun:=run_append_owned_none (P:=Tryz.prog) (w:=w) base 49 49 3 i 1 Tryz.underlying49 hi _ 1 _ hown;refine wpList_plain hgd fun _ hK=>?_
  unfold Oper.wp execOp;simp only[ho,hty,resolve,invoke,builtin,Sem.run_bind,Sem.run_pure,Result.andThen_ok,List.map_toArray,List.map_cons,List.map_nil,hs,hx,hrun];exact hK _ _ (h _ w hown ⟨rfl,rfl,rfl,Nat.le_refl _,fun _ _ _=>rfl⟩)
 refine wpList_append_own_at (P:=Tryz.prog) w hgd s x 49 ho base 3 i y0 1 8 Tryz.underlying49 hi hzz h1 h2 h3 (by decide) _ 1 _ hs hown ⟨g2,0,none⟩ m c (l.map (Value.int .i64)) hx hlen (fun j u hj=>?_) (fun u hu=>?_) (by unfold maxLen;omega) (by omega) hbase (fun v' w' g1 g3 _ _=>?_);rw[Addr.add_lit,Nat.zero_add,Has.cell (show Has w g2 cur 3 from q2),<-Array.getElem?_toList];rw[<-q6,List.getElem?_take]at hj;split at hj;exact hj;cases hj;obtain⟨t,_,rfl⟩:=List.mem_map.1 hu;rfl;rw[Nat.add_comm]at g1;exact h v' w' g1 g3
theorem vT(h:Has w b (iu p vH vI vA vW room) 72)(hp:p.ok):w.cell? ⟨b,85,none⟩=some vA:=by rw[Has.cell h 85];unfold iu A1;rw[List.getElem?_toArray,List.getElem?_append_right (by rw[jk hp];omega),jk hp];rfl
variable{l:List Int}
theorem mR(h:w.ownsRow base 3 1 v n (l.map (Value.int .i64))){k:Nat}{x:Int}(hx:l[k]?=some x):∃g c,v=.slice (aW g) n c/\w.cell? ⟨g,k,none⟩=some (i_ x):=by
 have hk:=(List.getElem?_eq_some_iff.1 hx).1;obtain⟨hlen,⟨rfl,hm0⟩|⟨g2,c,cur,rfl,q1,q2,q3,q4,q5,q6⟩⟩:=h;rw[List.length_map]at hlen;omega
 ·refine⟨g2,c,rfl,?_⟩;have e:(cur.toList.take (n*1))[k]?=some (Value.int .i64 x):=by rw[q6,List.getElem?_map,hx];rfl
  rw[Has.cell (show Has w g2 cur 3 from q2),<-Array.getElem?_toList];rw[List.getElem?_take]at e;split at e;exact e;cases e
def Left(M:List aq)(L l:List Int)(k:Int)(m:Nat):Prop:=∃L0,Row M k L0/\L0++l=L/\l.length=m
theorem Left.done{L:List Int}{k:Int}{m:Nat}(h:Left M L l k m)(hk:k = -1):l=L/\m=L.length:=by
 obtain⟨L0,h1,h2,h3⟩:=h;rcases h1.inv with⟨_,rfl⟩|⟨j,_,_,h4,_⟩
 obtain rfl:l=L:=h2;exact⟨rfl,h3.symm⟩;omega
theorem Left.next(hM:Ok r M){L l:List Int}{k:Int}{m:Nat}(h:Left M L l k m)(hk:k ≠ -1):∃(j:Nat)(d:aq),k=(j:Int)/\M[j]?=some d/\-1<=d.up/\d.up<(j:Int)/\m+1<=L.length/\Left M L ((j:Int)::l) d.up (m+1):=by
 obtain⟨L0,h1,h2,h3⟩:=h;rcases h1.inv with⟨h4,_⟩|⟨j,d,L',rfl,h4,h5,rfl⟩
 exact absurd h4 hk
 ·have hu:-1<=d.up/\d.up<(j:Int):=by
   rcases hM.ahead h4 with⟨rfl,rfl⟩|⟨i,a,h,q1,_,q3,_⟩
   simp[Ar.aB];omega
  refine⟨j,d,rfl,h4,hu.1,hu.2,?_,L',h5,by rw[<-h2,List.append_assoc];rfl,by rw[List.length_cons,h3]⟩;rw[<-h2,List.length_append,List.length_append,List.length_singleton];omega
theorem FZ(p:NN.Pr)(hp:p.ok)(vH vI vA vW:Value)(room b:Nat)(r:Ru)(M:List aq)(hM:Ok r M)(hl:M.length<=900)(i:Nat)(e:aq)(he:M[i]?=some e)(L:List Int)(hL:Row M (i:Int) L)(n:Nat)(hn:n=M.length)(w:World)(hA:Has w b (iu p vH vI vA vW room) 72)(hI:w.ownsRow 0 3 1 vA n ((M.map aq.up).map (Value.int .i64))):aN 66 #[ah b,i_ i] w fun r w'=>∃(v:Value),r=.returned v/\w'.ownsRow w.heap.size 3 1 v L.length (L.map (Value.int .i64))/\Bl w w':=by
 obtain⟨g,c,rfl,hr0⟩:=mR hI (k:=i) (x:=e.up) (by rw[List.getElem?_map,he];rfl);clear hr0;have c85:=vT hA hp;have HI:=h_ fun(w':World)(hb:Bl w w')=>ax hI (Kp.of (F:=fun _=>False) hb) fun _ _ hf=>hf
 have HC:=h_ fun(w':World)(hb:Bl w w')=>(World.cell?_of_block (hb.block b (block_lt_of_cell c85))).trans c85
 have HN:=h_ hn;have HS:Hid (Left M L [] (i:Int) 0):=h_ ⟨L,hL,List.append_nil _,rfl⟩
 have hL9:L.length<=900:=by
  have:=hL.len hM he;have:=(hM.chain i e he).1;have:=(List.getElem?_eq_some_iff.1 he).1;omega
 have HL:=h_ hL9;clear hn hI hA c85 he hL9 hL;go_enter Tryz.func66,Tryz.ntmps66;go_wp2_with fail
 go_loopw [5,6] (fun v i wr=>∃(cv:Value)(k:Int)(l:List Int)(m:Nat),v=cv/\i=i_ k/\Hid (Left M L l k m/\-1<=k)/\Hid (wr.ownsRow w.heap.size 3 1 cv m (l.map (Value.int .i64)))/\Bl w wr) (fun _ i _=>(intOf i+1).toNat)
 case atStart=>exact⟨_,(i:Int),[],0,rfl,rfl,h_ ⟨HS.out,by omega⟩,h_ ⟨rfl,.inl ⟨rfl,rfl⟩⟩,a_⟩
 case round=>
  obtain⟨cv,k,l,m,rfl,rfl,HK,HV,hB⟩:=hrel;by_cases hk:k = -1
  ·have hV:=HV.out;obtain⟨e1,e2⟩:=HK.out.1.done hk;rw[e1,e2]at hV;subst hk;clear e1 e2;go_wp2_with fail
   go_ret;exact⟨_,rfl,hV,hB⟩
  ·obtain⟨j,d,rfl,hd,l2,l3,l4,l5⟩:=HK.out.1.next hM hk;have hjn:j<n:=by rw[HN.out];exact(List.getElem?_eq_some_iff.1 hd).1
   have UP:m<=900:=by have:=HL.out;omega
   have hk0:(0:Int)<=(j:Int):=by omega
   have hmk:=fun w=>nM w (j:Int)
   have RZ:Hid (Left M L ((j:Int)::l) d.up (m+1)/\-1<=d.up):=h_ ⟨l5,l2⟩;have HM:Hid ((intOf (i_ d.up)+1).toNat<(intOf (i_ j)+1).toNat):=h_ (by simp[intOf];omega);have HD:Hid ((M.map aq.up)[j]?=some d.up):=h_ (by rw[List.getElem?_map,hd];rfl);have WW:=h_ UP;clear hk l2 l3 l4 l5 hd UP;generalize d.up=z at*;have hb1:Bl wr (wr.alloc (.cells #[i_ j] 3)):=aY;have hg1:Has (wr.alloc (.cells #[i_ j] 3)) wr.heap.size #[i_ j] 3:=Has.new _ _;have hV1:=ax HV.out (Kp.of (F:=fun _=>False) hb1) fun _ _ hf=>hf
   have hs1:=hB.size;have hs2:=Nat.le_trans hs1 hb1.size;go_upto_region 4 with((refine Ns rfl _ _ rfl rfl w.heap.size wr.heap.size (j:Int) rfl hg1 hs1 hs2 _ m l rfl hV1 WW.out ?_);intro v' w2 hown hgr)
   have hB2:Bl w w2:=(af hB hb1).trans (r8 hgr hs1 hs2);have c1:=HC.out _ hB2;obtain⟨g2,c2,e2,hr⟩:=mR (HI.out _ hB2) HD.out;obtain rfl:g=g2:=by cases e2;rfl
   clear e2 hb1 hg1 hV1 hs1 hs2 hgr hmk;have HO:=h_ hown;clear hown;go_wp2_with fail
   go_roundw
   case rel=>exact⟨_,z,(j:Int)::l,m+1,rfl,rfl,RZ,HO,hB2⟩
   case measure=>exact HM.out
theorem I6(h:ir w B F b r M)(hM:Ok r M)(hl:M.length<=900)(i:Nat)(e:aq)(he:M[i]?=some e)(L:List Int)(hL:Row M (i:Int) L):aN 66 #[ah b,i_ i] w fun r w'=>∃(v:Value),r=.returned v/\w'.ownsRow w.heap.size 3 1 v L.length (L.map (Value.int .i64))/\Bl w w':=by obtain⟨_,_,_,p,t,vH,vI,vA,vW,ws,h3,_⟩:=h;have hA:=h3.has;have hI:=h3.SH;have hp:=h3.RG;clear h3;rw[List.length_map]at hI;exact FZ p hp vH vI vA vW r.room b r M hM hl i e he L hL M.length rfl w hA hI
end An
namespace An
open Go.RowKit Mem Sc NN.Rz
open Ar (aq Ru aB Ok)
variable{w:World}{b:Nat}
theorem o4{p:NN.Pr}{vH vI vA vW:Value}{room:Nat}(h:Has w b (iu p vH vI vA vW room) 72)(hp:p.ok):w.cell? ⟨b,83,none⟩=some vH:=by rw[Has.cell h 83];unfold iu A1;rw[List.getElem?_toArray,List.getElem?_append_right (by rw[jk hp];omega),jk hp];rfl
theorem pD{v:Value}{hs:List Hd}(h:w.ownsRow 0 30 68 v hs.length (hs.flatMap bp))(hok:∀x∈hs,x.ok){k:Nat}{x:Hd}(hx:hs[k]?=some x):∃g c,v=.slice (aW g) hs.length c/\w.rangeAt g (k*68) (bp x):=by obtain⟨A,C,e,hA⟩:=pz bp 68 hs (fun l hl=>eR (hok l hl)) k x hx;rw[e]at h;have:=(List.getElem?_eq_some_iff.1 hx).1;obtain⟨g,c,e1,e2⟩:=kM h (by omega);rw[hA]at e2;exact⟨g,c,e1,e2⟩
def n7(g:Hd)(M:List aq)(k:Int)(hs:List Hd):Prop:=(k = -1/\hs=[])\/∃(j:Nat)(d:aq),k=(j:Int)/\M[j]?=some d/\hs=g::d.hs
variable{r:Ru}{M:List aq}
theorem I7(hM:Ok r M){j:Nat}{d:aq}(hd:M[j]?=some d):∃q,n7 r.g M d.up q/\r.g::d.hs=q++[d.h r.g]/\-1<=d.up/\d.up<(j:Int):=by
 by_cases h0:0<j;obtain⟨i,d',h,now,h1,h2,rfl,_⟩:=hM.up j d h0 hd;exact⟨r.g::d'.hs,.inr ⟨i,d',rfl,h2,rfl⟩,by rw[Ar.iw];simp,by show -1<=((i:Nat):Int);omega,by show((i:Nat):Int)<(j:Int);omega⟩
 ·obtain rfl:j=0:=by omega
  rw[hM.zero]at hd;cases hd;exact⟨[],.inl ⟨rfl,rfl⟩,rfl,by simp[aB],by simp[aB]⟩
theorem FW(p:NN.Pr)(hp:p.ok)(vH vI vA vW:Value)(room b:Nat)(r:Ru)(M:List aq)(hM:Ok r M)(hok:∀x∈M.map (aq.h r.g),x.ok)(hl:M.length<=900)(i:Nat)(e:aq)(he:M[i]?=some e)(n:Nat)(hn:n=M.length)(w:World)(hA:Has w b (iu p vH vI vA vW room) 72)(hH:w.ownsRow 0 30 68 vH (M.map (aq.h r.g)).length ((M.map (aq.h r.g)).flatMap bp))(hI:w.ownsRow 0 3 1 vA n ((M.map aq.up).map (Value.int .i64))):aN 79 #[ah b,i_ i] w fun r' w'=>∃ad c,r'=.returned (.slice ad (e.hs.length+1) c)/\aM w' ad (r.g::e.hs)/\e.hs.length+1<=c/\Below w.heap.size w w':=by
 obtain⟨g,c,rfl,hr0⟩:=mR hI (k:=i) (x:=e.up) (by rw[List.getElem?_map,he];rfl);obtain⟨gH,cH,rfl,hr1⟩:=pD hH hok (k:=i) (x:=e.h r.g) (by rw[List.getElem?_map,he];rfl);clear hr0 hr1;rw[List.length_map,<-hn]at hA;have c85:=vT hA hp;have T8:=o4 hA hp;have HI:=h_ fun(w':World)(hb:Below w.heap.size w w')=>ax hI (Kp.of (F:=fun _=>False) hb) fun _ _ hf=>hf
 have HH:=h_ fun(w':World)(hb:Below w.heap.size w w')=>ax hH (Kp.of (F:=fun _=>False) hb) fun _ _ hf=>hf
 have HC:=h_ fun(w':World)(hb:Below w.heap.size w w')=>(World.cell?_of_block (hb.block b (block_lt_of_cell c85))).trans c85
 have HD:=h_ fun(w':World)(hb:Below w.heap.size w w')=>(World.cell?_of_block (hb.block b (block_lt_of_cell T8))).trans T8
 have HN:=h_ hn;have HS:Hid (n7 r.g M (i:Int) (r.g::e.hs)):=h_ (.inr ⟨i,e,rfl,he,rfl⟩)
 have hi9:(r.g::e.hs).length<=900:=by
  have:=(hM.chain i e he).1;have:=(List.getElem?_eq_some_iff.1 he).1;simp;omega
 have HL:=h_ hi9;rw[show e.hs.length+1=(r.g::e.hs).length by simp];generalize r.g::e.hs=tot at*;clear hn hI hH hA c85 T8 he hi9;go_enter Tryz.func79,Tryz.ntmps79;go_wp2_with fail
 go_loopw [5,6] (fun v i wr=>∃(ad:Option Addr)(m c:Nat)(k:Int)(z q:List Hd),v=.slice ad m c/\i=i_ k/\Hid (n7 r.g M k q/\-1<=k/\z.length=m/\q++z=tot/\(ad=none->m=0/\c=0)/\m<=c)/\aM wr ad z/\Below w.heap.size w wr) (fun _ i _=>(intOf i+1).toNat)
 case atStart=>exact⟨none,0,0,(i:Int),[],tot,rfl,rfl,h_ ⟨HS.out,by omega,rfl,by simp,fun _=>⟨rfl,rfl⟩,Nat.le_refl _⟩,fun h=>absurd h (by simp),a_⟩
 case round=>
  obtain⟨ad,m,cc,k,z,q,rfl,rfl,HK,WV,hB⟩:=hrel;rcases HK.out with⟨⟨rfl,rfl⟩|⟨j,d,hk,hd,rfl⟩,hk1,hlm,htot,hnil,hmc⟩
  ·have e1:z=tot:=by simpa using htot
   have e2:m=tot.length:=by rw[<-hlm,e1]
   have HE:=h_ (And.intro e1 (And.intro e2 hmc));clear hk1 hlm htot hnil e1 e2 hmc;go_wp2_with fail
   go_ret;exact⟨ad,cc,by rw[<-HE.out.2.1];rfl,by rw[<-HE.out.1];exact WV,by rw[<-HE.out.2.1];exact HE.out.2.2,hB⟩
  ·subst hk;obtain⟨q2,l1,l2,l3,l4⟩:=I7 hM hd;have hjn:j<n:=by rw[HN.out];exact(List.getElem?_eq_some_iff.1 hd).1
   have hk0:(0:Int)<=(j:Int):=by omega
   have hdj:(M.map (aq.h r.g))[j]?=some (d.h r.g):=by rw[List.getElem?_map,hd];rfl
   have Y2:(d.h r.g).ok:=hok _ (List.mem_of_getElem? hdj);have RZ:Hid (n7 r.g M d.up q2/\-1<=d.up/\(d.h r.g::z).length=m+1/\q2++(d.h r.g::z)=tot):=h_ ⟨l1,l3,by simp[hlm],by rw[<-htot,l2];simp⟩;have HM:Hid ((intOf (i_ d.up)+1).toNat<(intOf (i_ j)+1).toNat):=h_ (by simp[intOf];omega);have HU:Hid ((M.map aq.up)[j]?=some d.up):=h_ (by rw[List.getElem?_map,hd];rfl)
   have UP:m<=900:=by
    have h1:=HL.out;rw[<-htot]at h1;simp at h1;omega
   have WW:=h_ (And.intro UP (And.intro hlm hnil));have T8:=HD.out _ hB;obtain⟨g2,c2,e2,rh⟩:=pD (HH.out _ hB) hok hdj;obtain rfl:gH=g2:=by cases e2;rfl
   clear e2 hk1 hlm htot l1 l2 l3 l4 hd UP hdj hnil hmc;generalize d.up=u at*;generalize d.h r.g=y at*;have zh:=eR Y2;have za:=fM Y2;have hbW:Below wr.heap.size wr (wr.alloc (.cells (aD y) 30)):=aY;have hgW:Has (wr.alloc (.cells (aD y) 30)) wr.heap.size (aD y) 30:=Has.new _ _;have hHW:=WV.below hbW;have hbg:wr.heap.size<=(wr.alloc (.cells (aD y) 30)).heap.size:=hbW.size
   go_upto_region 4 with(first
    | (with_reducible refine iP rfl _ rfl gH (j*68) rfl y rh zh ?_)
    | (with_reducible refine IN rfl _ rfl (aD y) rfl za ?_)
    | ((with_reducible refine Ny rfl _ _ rfl rfl wr.heap.size wr.heap.size y Y2 rfl hgW (Nat.le_refl _) hbg ad m cc z rfl WW.out.2.1 WW.out.2.2 hHW WW.out.1 ?_);intro WU c' w2 Xk hne hg' WX))
   have hb2:Below wr.heap.size wr w2:=(hbW).grown hg' hbW.size (fun q hq=>by have:wr.heap.size=q:=Option.some.inj hq;omega);have hB2:=af hB hb2;have c1:=HC.out _ hB2;obtain⟨g3,c3,e3,hr⟩:=mR (HI.out _ hB2) HU.out;obtain rfl:g=g3:=by cases e3;rfl
   clear e3 hbW hgW hHW hbg hg' rh T8 WV hb2;have RQ:=h_ (And.intro hne WX);clear hne WX;go_wp2_with fail
   go_roundw
   case rel=>exact⟨WU,m+1,c',u,y::z,q2,rfl,rfl,h_ ⟨RZ.out.1,RZ.out.2.1,RZ.out.2.2.1,RZ.out.2.2.2,fun e=>absurd e RQ.out.1,RQ.out.2⟩,Xk,hB2⟩
   case measure=>exact HM.out
theorem Fk{B:Nat}{F:Nat->Prop}(h:ir w B F b r M)(hM:Ok r M)(hl:M.length<=900)(i:Nat)(e:aq)(he:M[i]?=some e):aN 79 #[ah b,i_ i] w fun r' w'=>∃ad c,r'=.returned (.slice ad (e.hs.length+1) c)/\aM w' ad (r.g::e.hs)/\e.hs.length+1<=c/\Bl w w':=by obtain⟨_,_,_,p,t,vH,vI,vA,vW,ws,h3,_⟩:=h;have hA:=h3.has;have hI:=h3.SH;have hH:=h3.SG;have hp:=h3.RG;have hg:=h3.bK;clear h3;rw[List.length_map]at hI;exact FW p hp vH vI vA vW r.room b r M hM hg hl i e he M.length rfl w hA hH hI
end An
namespace An
open Go.RowKit Mem Sc NN.Rz
theorem Ds(b:Nat)(h:Hd)(ho:h.ok)(now:Int)(w:World)(KG:aV w 73 #[.agg (aD h)] (.bool false)):Calls Tryz.prog 40 #[.pointer (some ⟨b,0,none⟩),.agg (aD h),.int .i64 now] w fun r w'=>r=.returned (.tuple #[.int .i64 (-1),.int .i64 (1),.int .i64 (8)])/\Below w.heap.size w w':=by
 have za:=fM ho;go_enter Tryz.func40,Tryz.ntmps40;go_upto_region 1 with fail
 generalize hw0:World.alloc _ _=v0;have hB:Below w.heap.size w v0:=db hw0;have hH:aG v0 w.heap.size h:=by rw[<-hw0];exact Has.new _ _
 clear hw0;obtain⟨bH,Rn⟩:∃x,x=w.heap.size:=⟨_,rfl⟩;have TX:=h_ Rn;rw[<-Rn]at hH|-;clear Rn;go_wp2_with (first|fail|(with_reducible refine cC rfl _ rfl _ rfl hH za ?_))
 refine au (KG.out _ hB) fun v1 hb=>?_;replace hH:=hH.on hb;replace hB:=af hB hb;clear hb;go_wp2_with fail
 go_ret3
 exact⟨rfl,hB⟩
theorem Pc(b:Nat)(h:Hd)(ho:h.ok)(now:Int)(w:World)(KG:aV w 73 #[.agg (aD h)] (.bool true))(id:List UInt8)(KI:aV w 75 #[.agg (aD h)] (.agg (ae id)))(j:Nat)(KF:aV w 77 #[.pointer (some ⟨b,0,none⟩),.agg (ae id)] (.int .i64 (j:Int))):Calls Tryz.prog 40 #[.pointer (some ⟨b,0,none⟩),.agg (aD h),.int .i64 now] w fun r w'=>r=.returned (.tuple #[.int .i64 ((j:Int)),.int .i64 (0),.int .i64 (0)])/\Below w.heap.size w w':=by
 have hj0:(0:Int)<=(j:Int):=by omega
 have za:=fM ho;go_enter Tryz.func40,Tryz.ntmps40;go_upto_region 1 with fail
 generalize hw0:World.alloc _ _=v0;have hB:Below w.heap.size w v0:=db hw0;have hH:aG v0 w.heap.size h:=by rw[<-hw0];exact Has.new _ _
 clear hw0;obtain⟨bH,Rn⟩:∃x,x=w.heap.size:=⟨_,rfl⟩;have TX:=h_ Rn;rw[<-Rn]at hH|-;clear Rn;go_wp2_with (first|fail|(with_reducible refine cC rfl _ rfl _ rfl hH za ?_))
 refine au (KG.out _ hB) fun v1 hb=>?_;replace hH:=hH.on hb;replace hB:=af hB hb;clear hb;go_wp2_with (first|fail|(with_reducible refine cC rfl _ rfl _ rfl hH za ?_))
 refine au (KI.out _ hB) fun v2 hb=>?_;replace hH:=hH.on hb;replace hB:=af hB hb;clear hb;go_wp2_with (first|fail|(with_reducible refine cC rfl _ rfl _ rfl hH za ?_))
 refine au (KF.out _ hB) fun v3 hb=>?_;replace hH:=hH.on hb;replace hB:=af hB hb;clear hb;go_wp2_with fail
 go_ret3
 exact⟨rfl,hB⟩
theorem PA(b:Nat)(h:Hd)(ho:h.ok)(now:Int)(w:World)(KG:aV w 73 #[.agg (aD h)] (.bool true))(id:List UInt8)(KI:aV w 75 #[.agg (aD h)] (.agg (ae id)))(KF:aV w 77 #[.pointer (some ⟨b,0,none⟩),.agg (ae id)] (.int .i64 (-1)))(KP:aV w 77 #[.pointer (some ⟨b,0,none⟩),.agg (ae h.prev)] (.int .i64 (-1))):Calls Tryz.prog 40 #[.pointer (some ⟨b,0,none⟩),.agg (aD h),.int .i64 now] w fun r w'=>r=.returned (.tuple #[.int .i64 (-1),.int .i64 (2),.int .i64 (5)])/\Below w.heap.size w w':=by
 have za:=fM ho;go_enter Tryz.func40,Tryz.ntmps40;go_upto_region 1 with fail
 generalize hw0:World.alloc _ _=v0;have hB:Below w.heap.size w v0:=db hw0;have hH:aG v0 w.heap.size h:=by rw[<-hw0];exact Has.new _ _
 clear hw0;obtain⟨bH,Rn⟩:∃x,x=w.heap.size:=⟨_,rfl⟩;have TX:=h_ Rn;rw[<-Rn]at hH|-;clear Rn;go_wp2_with (first|fail|(with_reducible refine cC rfl _ rfl _ rfl hH za ?_))
 refine au (KG.out _ hB) fun v1 hb=>?_;replace hH:=hH.on hb;replace hB:=af hB hb;clear hb;go_wp2_with (first|fail|(with_reducible refine cC rfl _ rfl _ rfl hH za ?_))
 refine au (KI.out _ hB) fun v2 hb=>?_;replace hH:=hH.on hb;replace hB:=af hB hb;clear hb;go_wp2_with (first|fail|(with_reducible refine cC rfl _ rfl _ rfl hH za ?_))
 refine au (KF.out _ hB) fun v3 hb=>?_;replace hH:=hH.on hb;replace hB:=af hB hb;clear hb;have rP:v3.rangeAt bH 1 (Lib.byteCells h.prev):=wE (aG.range hH);have sP:(Lib.byteCells h.prev).length=32:=by rw[Lib.byteCells_length,ho.1]
 go_wp2_with (first|fail|(with_reducible refine fQ rfl _ rfl bH 1 rfl h.prev rP sP ?_))
 refine au (KP.out _ hB) fun v4 hb=>?_;replace hH:=hH.on hb;replace hB:=af hB hb;clear hb;go_wp2_with fail
 go_ret3
 exact⟨rfl,hB⟩
open Ar (aq Ok Ru aB)
section
variable{w:World}{b:Nat}{p:NN.Pr}{vH vI vA vW:Value}{room:Nat}
theorem rK(hp:p.ok)(j:Nat):(iu p vH vI vA vW room)[83+j]?=([vH,vI,vA,vW,i_ room]:List Value)[j]?:=by unfold iu A1;rw[List.getElem?_toArray,List.getElem?_append_right (by rw[jk hp];omega),jk hp,show 83+j-83=j by omega]
theorem sR(h:Has w b (iu p vH vI vA vW room) 72)(hp:p.ok):w.cell? ⟨b,86,none⟩=some vW:=(Has.cell h 86).trans (rK hp 3)
theorem Ov(h:Has w b (iu p vH vI vA vW room) 72)(hp:p.ok):w.cell? ⟨b,87,none⟩=some (i_ room):=(Has.cell h 87).trans (rK hp 4)
theorem IF(h:Has w b (iu p vH vI vA vW room) 72):w.rangeAt b 0 (NN.dK p):=by have:=gk (A:=[]) (cs:=NN.dK p) (C:=[vH,vI,vA,vW,i_ room]) (o:=0) (w:=w) (b:=b) (t:=72) h rfl;exact this
theorem kD(h:Has w b (iu p vH vI vA vW room) 72)(hp:p.ok)(v':Value)(k:Nat){cs:List Value}(hk:([vH,vI,vA,vW,i_ room]:List Value).set k v'=cs):Has (w.setCell ⟨b,83+k,none⟩ v') b (NN.dK p++cs).toArray 72:=by
 have:=Has.set (i:=83+k) h v'
 have e:(iu p vH vI vA vW room).setIfInBounds (83+k) v'=(NN.dK p++cs).toArray:=by
  unfold iu A1;rw[List.setIfInBounds_toArray,List.set_append_right _ _ (by rw[jk hp];omega),jk hp,show 83+k-83=k by omega,hk]
 rwa[e]at this
theorem vL(w:World)(g:Nat):(Instr.fieldAt 72 (ah g) 0).run Tryz.prog w=.ok (ah g) w:=by kernel_rfl
theorem ow(w:World)(g:Nat):(Instr.fieldAt 72 (ah g) 1).run Tryz.prog w=.ok (.pointer (some ⟨g,83,none⟩)) w:=by kernel_rfl
theorem oy(w:World)(g:Nat):(Instr.fieldAt 72 (ah g) 2).run Tryz.prog w=.ok (.pointer (some ⟨g,84,none⟩)) w:=by kernel_rfl
theorem kN(w:World)(g:Nat):(Instr.fieldAt 72 (ah g) 4).run Tryz.prog w=.ok (.pointer (some ⟨g,86,none⟩)) w:=by kernel_rfl
theorem Nv(w:World)(g j n c:Nat)(hj:j<n):(Instr.indexAt 70 (.slice (aW g) n c) (i_ j)).run Tryz.prog w=.ok (.pointer (some ⟨g,j*4,none⟩)) w:=by go_simp
end
section
variable{ρ:Operand->Value}{o:Oper}{w w':World}
variable{T:TypeId}{x:Operand}{p:Addr}{u:Value}
theorem gF(ho:o.op=.load T x)(hx:ρ x=.pointer (some p))(hl:(loadVar T p).run Tryz.prog w=.ok u w):(execOp ρ o).run Tryz.prog w=.ok (.value u) w:=by unfold execOp;simp only[ho,hx,Instr.loadAt,Instr.sureAddr,Sem.run_bind,Sem.run_pure,Result.andThen_ok,hl]
theorem lY{y:Operand}(ho:o.op=.store T x y)(hx:ρ x=.pointer (some p))(hy:ρ y=u)(hl:(storeVar T p u).run Tryz.prog w=.ok () w'):(execOp ρ o).run Tryz.prog w=.ok .skip w':=by unfold execOp;simp only[ho,hx,hy,Instr.storeAt,Instr.sureAddr,Sem.run_bind,Sem.run_pure,Result.andThen_ok,hl]
variable{a:Option Addr}{n c:Nat}
theorem zH(h:w.cell? p=some (.slice a n c)):(loadVar 68 p).run Tryz.prog w=.ok (.slice a n c) w:=by go_simp
theorem AT(h:w.cell? p=some (.slice a n c)):(loadVar 69 p).run Tryz.prog w=.ok (.slice a n c) w:=by go_simp
theorem xJ(h:w.cell? p=some (.slice a n c)):(loadVar 70 p).run Tryz.prog w=.ok (.slice a n c) w:=by go_simp
theorem B7(hf:w.frozen? p=false)(hc:w.cell? p=some u):(storeVar 68 p (.slice a n c)).run Tryz.prog w=.ok () (w.setCell p (.slice a n c)):=by go_simp
theorem zD(hf:w.frozen? p=false)(hc:w.cell? p=some u):(storeVar 69 p (.slice a n c)).run Tryz.prog w=.ok () (w.setCell p (.slice a n c)):=by go_simp
theorem vm(hf:w.frozen? p=false)(hc:w.cell? p=some u):(storeVar 70 p (.slice a n c)).run Tryz.prog w=.ok () (w.setCell p (.slice a n c)):=by go_simp
theorem vN{Ts:TypeId}{size bytes:Nat}(hu:Tryz.prog.underlying Ts=some (.slice T))(Y3:∃i z,Tryz.prog.info? T=some i/\i.zero=some z/\i.size=size/\i.bytes=bytes/\z.cells.size=size)(h4:1001*bytes<=140737488355328)(h5:0<size){x y:Operand}{v:Value}{n g:Nat}{xs:List Value}{cs:Array Value}(hcs:cs.size=size)(hone:∀u∈cs.toList,u.oneCell'=true)(hx:ρ x=v)(hown:w.ownsRow 0 T size v n xs)(hy:ρ y=.slice (aW g) 1 1)(hg:Has w g cs T)(hn:n<=1000):∃v' w',(∀o:Oper,o.op=.call { callee:=.builtin .append,args:=#[x,y],argTypes:=#[Ts,Ts] }->o.type=Ts->(execOp ρ o).run Tryz.prog w=.ok (.value v') w')/\w'.ownsRow 0 T size v' (n+1) (xs++cs.toList)/\w.grownBy w' v.ownBlock/\(v'.ownBlock=v.ownBlock\/v'.ownBlock=some w.heap.size):=by
 obtain⟨i,z,hi,hz,h1,h2,h3⟩:=Y3
 obtain⟨v',w',hr,g1,g2,_,g4⟩:=run_append_own_at (P:=Tryz.prog) w 0 Ts Ts T i z size bytes hu hi hz h1 h2 h3 h5 v n xs hown ⟨g,0,none⟩ 1 1 cs.toList (by simp[hcs]) (fun j u hj=>by
  rw[Addr.add_lit,Nat.zero_add,hg.cell j,<-Array.getElem?_toList];exact hj) hone (by unfold maxLen;omega) (Nat.le_trans (Nat.mul_le_mul_right _ (by omega)) h4) (Nat.zero_le _)
 refine⟨v',w',fun o ho hty=>?_,g1,g2,g4⟩;unfold execOp;simp only[ho,hty,resolve,invoke,builtin,Sem.run_bind,Sem.run_pure,Result.andThen_ok,List.map_toArray,List.map_cons,List.map_nil,hx,hy,hr]
end
theorem iV{w:World}{base:Nat}{T:TypeId}{size:Nat}{v:Value}{n:Nat}{xs:List Value}(h:w.ownsRow base T size v n xs)(hn:0<n):∃g c,v=.slice (aW g) n c:=by
 rcases h.2 with⟨_,h0⟩|⟨g,c,cur,rfl,_⟩
 omega;exact⟨g,c,rfl⟩
structure iE (kb ka ks sb sa B:Nat) (T TA:TypeId) (size:Nat) (E:Array Value->Prop) (v:Value) (n:Nat) (xs:List Value) (b:Nat) (A:Value->Array Value) (l:Array Bool) (a:Act) (w:World):Prop where
 bu:l.getD kb false=true->l.getD ka false=false->∃g cs,E cs/\a.eval (.tmp sb)=.slice (aW g) 1 1/\Has w g cs T
 ro:l.getD ka false=false->w.ownsRow 0 T size v n xs
 ap:l.getD ka false=true->l.getD ks false=false->∃v' cs,E cs/\a.eval (.tmp sa)=v'/\w.ownsRow 0 T size v' (n+1) (xs++cs.toList)/\(v'.ownBlock=v.ownBlock\/∃g,v'.ownBlock=some g/\B<=g)
 ha:l.getD ks false=false->Has w b (A v) TA
 st:l.getD ks false=true->∃v' cs,E cs/\Has w b (A v') TA/\w.ownsRow 0 T size v' (n+1) (xs++cs.toList)/\(v'.ownBlock=v.ownBlock\/∃g,v'.ownBlock=some g/\B<=g)
section
variable{kb ka ks sb sa B:Nat}{T TA:TypeId}{size:Nat}{E:Array Value->Prop}{v:Value}{n:Nat}{xs:List Value}{b:Nat}{A:Value->Array Value}{l:Array Bool}{a:Act}{w w':World}
theorem iE.zero(hl:∀i,l.getD i false=false)(hr:w.ownsRow 0 T size v n xs)(hA:Has w b (A v) TA):iE kb ka ks sb sa B T TA size E v n xs b A l a w:=⟨fun h=>(by rw[hl]at h;cases h),fun _=>hr,fun h=>(by rw[hl]at h;cases h),fun _=>hA,fun h=>(by rw[hl]at h;cases h)⟩
theorem iE.keep(h:iE kb ka ks sb sa B T TA size E v n xs b A l a w){i:Nat}(hi:i<l.size)(h1:i≠kb:=by decide)(h2:i≠ka:=by decide)(h3:i≠ks:=by decide){d:Option Tmp}{u:Value}(hd:d≠some sb:=by decide)(hd2:d≠some sa:=by decide):iE kb ka ks sb sa B T TA size E v n xs b A (l.setIfInBounds i true) (a.put d u) w:=by obtain⟨p1,p2,p3,p4,p5⟩:=h;constructor<;>simp only[gd l i kb hi h1,gd l i ka hi h2,gd l i ks hi h3,Act.eval_put (a:=a) (v:=u) (fun d' hdd e=>hd (by rw[hdd];cases e;rfl):∀d',d=some d'->(Operand.tmp sb)=.tmp d'->False),Act.eval_put (a:=a) (v:=u) (fun d' hdd e=>hd2 (by rw[hdd];cases e;rfl):∀d',d=some d'->(Operand.tmp sa)=.tmp d'->False)]<;>assumption
theorem iE.on(h:iE kb ka ks sb sa B T TA size E v n xs b A l a w)(hb:Bl w w'):iE kb ka ks sb sa B T TA size E v n xs b A l a w':=by have k:=Kp.of (F:=fun _=>False) hb;refine⟨fun h1 h2=>?_,fun h1=>ax (h.ro h1) k (fun _ _ h=>h),fun h1 h2=>?_,fun h1=>k.has (h.ha h1) (fun h=>h),fun h1=>?_⟩;obtain⟨g,cs,e1,e2,e3⟩:=h.bu h1 h2;exact⟨g,cs,e1,e2,k.has e3 (fun h=>h)⟩;obtain⟨v',cs,e1,e2,e3,e4⟩:=h.ap h1 h2;exact⟨v',cs,e1,e2,ax e3 k (fun _ _ h=>h),e4⟩;obtain⟨v',cs,e1,e2,e3,e4⟩:=h.st h1;exact⟨v',cs,e1,k.has e2 (fun h=>h),ax e3 k (fun _ _ h=>h),e4⟩
theorem iE.built(h:iE kb ka ks sb sa B T TA size E v n xs b A l a w)(hi:kb<l.size)(ka0:(l.setIfInBounds kb true).getD ka false=false)(Vn:(l.setIfInBounds kb true).getD ks false=false)(h1:kb≠ka)(h2:kb≠ks)(hs:sb<a.tmps.size){cs:Array Value}(hE:E cs):iE kb ka ks sb sa B T TA size E v n xs b A (l.setIfInBounds kb true) (a.put (some sb) (.slice (some ⟨w.heap.size,0,none⟩) 1 1)) (w.alloc (.cells cs T)):=by have hb:Bl w (w.alloc (.cells cs T)):=aY;have k:=Kp.of (F:=fun _=>False) hb;exact⟨fun _ _=>⟨_,cs,hE,jU a sb _ hs,Has.new _ _⟩,fun _=>ax (h.ro (by rw[<-gd l kb ka hi h1];exact ka0)) k (fun _ _ h=>h),fun h=>(by rw[ka0]at h;cases h),fun _=>k.has (h.ha (by rw[<-gd l kb ks hi h2];exact Vn)) (fun h=>h),fun h=>(by rw[Vn]at h;cases h)⟩
theorem iE.appended(h:iE kb ka ks sb sa B T TA size E v n xs b A l a w)(hi:ka<l.size)(Vn:(l.setIfInBounds ka true).getD ks false=false)(h2:ka≠ks)(hs:sa<a.tmps.size){cs:Array Value}(hE:E cs){v':Value}(g1:w'.ownsRow 0 T size v' (n+1) (xs++cs.toList))(g2:w.grownBy w' v.ownBlock)(g3:v'.ownBlock=v.ownBlock\/v'.ownBlock=some w.heap.size)(hB:B<=w.heap.size)(hb:v.ownBlock≠some b):iE kb ka ks sb sa B T TA size E v n xs b A (l.setIfInBounds ka true) (a.put (some sa) v') w':=by
 have ea:(l.setIfInBounds ka true).getD ka false=true:=by rw[gi _ _ _ hi,if_pos rfl]
 have hA:=h.ha (by rw[<-gd l ka ks hi h2];exact Vn);exact⟨fun _ h=>(by rw[ea]at h;cases h),fun h=>(by rw[ea]at h;cases h),fun _ _=>⟨v',cs,hE,jU a sa _ hs,g1,g3.elim .inl (fun g=>.inr ⟨_,g,hB⟩)⟩,fun _=>(g2.block b (Has.lt hA) (fun e=>hb e.symm)).trans hA,fun h=>(by rw[Vn]at h;cases h)⟩
theorem iE.stored(hi:ks<l.size)(h2:ks≠ka)(hka:l.getD ka false=true){cs:Array Value}(hE:E cs){v':Value}(hA:Has w' b (A v') TA)(g1:w'.ownsRow 0 T size v' (n+1) (xs++cs.toList))(g3:v'.ownBlock=v.ownBlock\/∃g,v'.ownBlock=some g/\B<=g):iE kb ka ks sb sa B T TA size E v n xs b A (l.setIfInBounds ks true) (a.put none undef) w':=by
 have ea:(l.setIfInBounds ks true).getD ka false=true:=by rw[gd l ks ka hi h2];exact hka
 have es:(l.setIfInBounds ks true).getD ks false=true:=by rw[gi _ _ _ hi,if_pos rfl]
 exact⟨fun _ h=>(by rw[ea]at h;cases h),fun h=>(by rw[ea]at h;cases h),fun _ h=>(by rw[es]at h;cases h),fun h=>(by rw[es]at h;cases h),fun _=>⟨v',cs,hE,hA,g1,g3⟩⟩
end
def MK(b j:Nat)(p:NN.Pr)(h:Hd)(now y:Int)(m:Nat)(ch:List Hd):Nat->Value->World->Prop
 | 0,u,_=>u=ah b
 | 1,u,_=>u=ah b
 | 2,u,_=>u=ah b
 | 3,u,_=>u=.agg (NN.aE p)
 | 4,u,_=>u=ah b
 | 5,u,_=>u=i_ j
 | 6,u,w=>∃ad c,u=.slice ad m c/\aM w ad ch
 | 7,u,_=>u=.agg (aD h)
 | 8,u,_=>u=i_ now
 | 9,u,_=>u=i_ y
 | 10,u,_=>u=i_ y
 | _,_,_=>b=b
theorem Gk{b j:Nat}{p:NN.Pr}{h:Hd}{now y:Int}{m:Nat}{ch:List Hd}:∀(i:Nat)(u:Value)(w w':World),Bl w w'->MK b j p h now y m ch i u w->MK b j p h now y m ch i u w'
 | 0,_,_,_,_,h|1,_,_,_,_,h|2,_,_,_,_,h|3,_,_,_,_,h|4,_,_,_,_,h|5,_,_,_,_,h|7,_,_,_,_,h|8,_,_,_,_,h|9,_,_,_,_,h|10,_,_,_,_,h=>h
 | 6,_,_,_,hb,⟨ad,c,h1,h2⟩=>⟨ad,c,h1,h2.below hb⟩
 | _+11,_,_,_,_,_=>rfl
structure Q_ (b gH gI gA gW bH:Nat):Prop where
 nH:b≠gH
 nI:b≠gI
 nA:b≠gA
 nW:b≠gW
 HI:gH≠gI
 HA:gH≠gA
 HW:gH≠gW
 IA:gI≠gA
 IW:gI≠gW
 AW:gA≠gW
 bb:bH≠b
 bh:bH≠gH
 bi:bH≠gI
 ba:bH≠gA
 bw:bH≠gW
def Q1(b:Nat)(v:Value)(h:Hd):Nat->Value->Prop
 | 0,u|1,u|2,u|8,u=>u=ah b
 | 3,u|9,u=>u=.pointer (some ⟨b,83,none⟩)
 | 4,u=>u=v
 | 5,u=>u=.agg (aD h)
 | _,_=>b=b
def QZ(b:Nat)(v:Value)(h:Hd)(id:List UInt8):Nat->Value->Prop
 | 0,u|1,u|2,u|9,u=>u=ah b
 | 3,u|10,u=>u=.pointer (some ⟨b,84,none⟩)
 | 4,u=>u=v
 | 5,u=>u=.agg (aD h)
 | 6,u=>u=.agg (ae id)
 | _,_=>b=b
def QY(b bH gW j z xo xs:Nat)(v:Value)(bits:Int):Nat->Value->Prop
 | 0,u|1,u|2,u|5,u|6,u|18,u=>u=ah b
 | 3,u|7,u|19,u=>u=.pointer (some ⟨b,86,none⟩)
 | 4,u|8,u=>u=v
 | 9,u=>u=i_ j
 | 10,u=>u=.pointer (some ⟨gW,j*4,none⟩)
 | 11,u=>u=.agg (NN.aa z)
 | 12,u=>u=.pointer (some ⟨bH,66,none⟩)
 | 13,u=>u=i_ bits
 | 14,u=>pO xo u
 | 15,u=>pO xs u
 | _,_=>b=b
theorem Pu{w:World}{ops:Array Oper}{rest:List Oper}{o:Oper}{a:Act}{Q:Exit->Act->World->Prop}(hgd:o.guard=none)(x y:Operand)(ho:o.op=.store 49 x y)(q:Addr)(ad:Option Addr)(n c:Nat)(u:Value)(hx:a.eval x=.pointer (some q))(hy:a.eval y=.slice ad n c)(hf:w.frozen? q=false)(hc:w.cell? q=some u)(hk:wpList Tryz.prog ops Q rest (a.put o.dst undef) (w.setCell q (.slice ad n c))):wpList Tryz.prog ops Q (o::rest) a w:=
 wpList_plain hgd fun _ hK=>by
  unfold Oper.wp;rw[lY ho hx hy (Cf hf hc)];exact hK _ _ hk
theorem NM(b:Nat)(p:NN.Pr)(hp:p.ok)(room n gH cH gI cI gA cA gW cW:Nat)(xH xI xW:List Value)(lA:List Int)(h:Hd)(ho:h.ok)(now:Int)(w:World)(hA:Has w b (iu p (.slice (some ⟨gH,0,none⟩) n cH) (.slice (some ⟨gI,0,none⟩) n cI) (.slice (some ⟨gA,0,none⟩) n cA) (.slice (some ⟨gW,0,none⟩) n cW) room) 72)(rH:w.ownsRow 0 30 68 (.slice (some ⟨gH,0,none⟩) n cH) n xH)(rI:w.ownsRow 0 28 32 (.slice (some ⟨gI,0,none⟩) n cI) n xI)(rA:w.ownsRow 0 3 1 (.slice (some ⟨gA,0,none⟩) n cA) n (lA.map (Value.int .i64)))(rW:w.ownsRow 0 26 4 (.slice (some ⟨gW,0,none⟩) n cW) n xW)(Te:n<=900)(j:Nat)(hj:j<n)(z:Nat)(hz:z<NN.Nm.ai)(Y4:Hid (∀w':World,w'.ownsRow 0 26 4 (.slice (some ⟨gW,0,none⟩) n cW) n xW->w'.rangeAt gW (j*4) (NN.aa z).toList))(KG:aV w 73 #[.agg (aD h)] (.bool true))(id:List UInt8)(i32:id.length=32)(KI:x9 75 #[.agg (aD h)] (.agg (ae id)))(KF:aV w 77 #[.pointer (some ⟨b,0,none⟩),.agg (ae id)] (.int .i64 (-1)))(KP:aV w 77 #[.pointer (some ⟨b,0,none⟩),.agg (ae h.prev)] (.int .i64 (j:Int)))(m:Nat)(ch:List Hd)(KC:Hid (∀w',Below w.heap.size w w'->Calls Tryz.prog 79 #[.pointer (some ⟨b,0,none⟩),.int .i64 (j:Int)] w' fun e w''=>∃v,e=.returned v/\(∃ad c,v=.slice ad m c/\aM w'' ad ch)/\Below w'.heap.size w' w''))(y:Int)(KK:Hid (∀w' ad c,Below w.heap.size w w'->aM w' ad ch->Calls Tryz.prog 78 #[.agg (NN.aE p),.slice ad m c,.agg (aD h),.int .i64 now] w' fun e w''=>e=.returned (.int .i64 y)/\Below w'.heap.size w' w''))(xo xs:Nat)(KO:Hid (NN.uT 76 #[.int .i64 h.bits] xo))(KS:Hid (∀x,x<NN.Nm.ai/\x=xo->NN.uT 80 #[.agg (NN.aa z),.agg (NN.aa x)] xs))(gy gf:Bool)(t9:decide ((0:Int)<y)=gy)(tf:decide (room<=n)=gf)(Q:Ending->World->Prop)(Vz:Hid (gy=true->∀w',Below w.heap.size w w'->Q (.returned (.tuple #[.int .i64 (-1),.int .i64 y,.int .i64 8])) w'))(HQ2:Hid (gy=false->gf=true->∀w',Below w.heap.size w w'->Q (.returned (.tuple #[.int .i64 (-1),.int .i64 0,.int .i64 6])) w'))(HQ3:Hid (gy=false->gf=false->∀w' vH vI vA vW z',z'<NN.Nm.ai/\z'=xs->Has w' b (iu p vH vI vA vW room) 72->w'.ownsRow 0 30 68 vH (n+1) (xH++bp h)->w'.ownsRow 0 28 32 vI (n+1) (xI++Lib.byteCells id)->w'.ownsRow 0 3 1 vA (n+1) ((lA++[(j:Int)]).map (Value.int .i64))->w'.ownsRow 0 26 4 vW (n+1) (xW++(NN.aa z').toList)->(∀k,vH.ownBlock=some k->k=gH\/w.heap.size<=k)->(∀k,vI.ownBlock=some k->k=gI\/w.heap.size<=k)->(∀k,vA.ownBlock=some k->k=gA\/w.heap.size<=k)->(∀k,vW.ownBlock=some k->k=gW\/w.heap.size<=k)->Kp (fun i=>i=b\/i=gH\/i=gI\/i=gA\/i=gW) w w'->Q (.returned (.tuple #[.int .i64 (n:Int),.int .i64 0,.int .i64 0])) w')):Calls Tryz.prog 40 #[.pointer (some ⟨b,0,none⟩),.agg (aD h),.int .i64 now] w Q:=by
 have hj0:¬(j:Int)<0:=by omega
 have hj1:j<n:=hj;have HJ:=h_ hj;have HZ:=h_ hz;have HR:=h_ (And.intro hA (And.intro rH (And.intro rI (And.intro rA rW))));have HTF:=h_ tf;have zI:(ae id).size=32:=by rw[jz];exact i32
 clear hj hz hA rH rI rA rW tf;have za:=fM ho;go_enter Tryz.func40,Tryz.ntmps40;go_upto_region 1 with fail
 generalize hw0:World.alloc _ _=v0;have hB:Below w.heap.size w v0:=db hw0;have hH:aG v0 w.heap.size h:=by rw[<-hw0];exact Has.new _ _
 clear hw0;obtain⟨bH,Rn⟩:∃x,x=w.heap.size:=⟨_,rfl⟩;have TX:=h_ Rn;rw[<-Rn]at hH|-;clear Rn;go_wp2_with (first|fail|(with_reducible refine cC rfl _ rfl _ rfl hH za ?_))
 refine au (KG.out _ hB) fun v1 hb=>?_;replace hH:=hH.on hb;replace hB:=af hB hb;clear hb;go_wp2_with (first|fail|(with_reducible refine cC rfl _ rfl _ rfl hH za ?_))
 refine au (KI.out _) fun v2 hb=>?_;replace hH:=hH.on hb;replace hB:=af hB hb;clear hb;go_wp2_with (first|fail|(with_reducible refine cC rfl _ rfl _ rfl hH za ?_))
 refine au (KF.out _ hB) fun v3 hb=>?_;replace hH:=hH.on hb;replace hB:=af hB hb;clear hb;have rP:v3.rangeAt bH 1 (Lib.byteCells h.prev):=wE (aG.range hH);have sP:(Lib.byteCells h.prev).length=32:=by rw[Lib.byteCells_length,ho.1]
 go_wp2_with (first|fail|(with_reducible refine fQ rfl _ rfl bH 1 rfl h.prev rP sP ?_))
 refine au (KP.out _ hB) fun v4 hb=>?_;replace hH:=hH.on hb;replace hB:=af hB hb;clear hb;clear rP sP KG KF KP;go_upto_region 9 with fail
 have HB4:=h_ hB;refine ig (by kernel_rfl) (fun w'=>Below v4.heap.size v4 w') (fun i v' w'=>MK b j p h now y m ch i v' w') (fun _ _ _=>True) (fun w1 w2=>Below w1.heap.size w1 w2) (fun _ _=>Below.refl _ _) (fun i v w w' _ hs h=>Gk i v w w' hs h) (by kernel_rfl) a_.drew (fun _ _=>trivial) ?_ ?_
 ·intro i o lz a wx ho' hnl dq Z;have hC:=Z.c;have hi:i<11:=(Array.getElem?_eq_some_iff.1 ho').1;have Td:aG wx bH h:=hH.on hC;have hBx:=af HB4.out hC;have rp:wx.rangeAt b 0 (NN.dK p):=ix (IF HR.out.1) hBx (by rw[jk hp];decide);obtain rfl|rfl|rfl|rfl|rfl|rfl|rfl|rfl|rfl|rfl|rfl:i=0\/i=1\/i=2\/i=3\/i=4\/i=5\/i=6\/i=7\/i=8\/i=9\/i=10:=by omega
  all_goals obtain rfl:=Option.some.inj ho'
  exact dx (S:=fun w1 w2=>Below w1.heap.size w1 w2) (fun _ _=>Below.refl _ _) 0 Z (ak rfl) (NN.dk rfl) (Z.old' 0) trivial;exact dx (S:=fun w1 w2=>Below w1.heap.size w1 w2) (fun _ _=>Below.refl _ _) 1 Z (ak rfl) (cB rfl (ar Z dq 0 28)) rfl trivial;exact dx (S:=fun w1 w2=>Below w1.heap.size w1 w2) (fun _ _=>Below.refl _ _) 2 Z (ak rfl) (de rfl (ar Z dq 1 29) (vL wx b)) rfl trivial;exact dx (S:=fun w1 w2=>Below w1.heap.size w1 w2) (fun _ _=>Below.refl _ _) 3 Z (ak rfl) (Ci rfl (ar Z dq 2 30) rp (jk hp)) rfl trivial;exact dx (S:=fun w1 w2=>Below w1.heap.size w1 w2) (fun _ _=>Below.refl _ _) 4 Z (ak rfl) (NN.dk rfl) (Z.old' 0) trivial;exact dx (S:=fun w1 w2=>Below w1.heap.size w1 w2) (fun _ _=>Below.refl _ _) 5 Z (ak rfl) (NN.dk rfl) (Z.old' 10) trivial
  ·have e32:a.eval (.tmp 32)=.pointer (some ⟨b,0,none⟩):=(ar Z dq 4 32);have e33:a.eval (.tmp 33)=.int .i64 (j:Int):=(ar Z dq 5 33);exact QQ (S:=fun w1 w2=>Below w1.heap.size w1 w2) 6 Z (W:=fun v w'=>∃ad c,v=.slice ad m c/\aM w' ad ch) (ak rfl) (f:=79) (args:=#[a.eval (.tmp 32),a.eval (.tmp 33)]) (by kernel_rfl) (by rw[e32,e33];exact KC.out wx hBx) (fun v w' hv hb=>⟨af hC hb,hb,hv,trivial⟩)
  exact dx (S:=fun w1 w2=>Below w1.heap.size w1 w2) (fun _ _=>Below.refl _ _) 7 Z (ak rfl) (nw rfl (Z.old' 4) Td za) rfl trivial;exact dx (S:=fun w1 w2=>Below w1.heap.size w1 w2) (fun _ _=>Below.refl _ _) 8 Z (ak rfl) (NN.dk rfl) (Z.old' 2) trivial
  ·have e31:a.eval (.tmp 31)=.agg (NN.aE p):=(ar Z dq 3 31);obtain⟨ad,c,e34,hch⟩:∃ad c,a.eval (.tmp 34)=.slice ad m c/\aM wx ad ch:=(ar Z dq 6 34);have e35:a.eval (.tmp 35)=.agg (aD h):=(ar Z dq 7 35);have e36:a.eval (.tmp 36)=.int .i64 now:=(ar Z dq 8 36);exact lZ (S:=fun w1 w2=>Below w1.heap.size w1 w2) 9 Z (ak rfl) (f:=78) (args:=#[a.eval (.tmp 31),a.eval (.tmp 34),a.eval (.tmp 35),a.eval (.tmp 36)]) (by kernel_rfl) (by rw[e31,e34,e35,e36];exact KK.out wx ad c hBx hch) (fun w' hb=>⟨af hC hb,hb,rfl,trivial⟩)
  exact dx (S:=fun w1 w2=>Below w1.heap.size w1 w2) (fun _ _=>Below.refl _ _) 10 Z (ak rfl) (NN.eT rfl) (ar Z dq 9 37) trivial
 intro lz a' v5 hall Z;have hC:=Z.c;have e11:a'.eval (.tmp 11)=.int .i64 y:=Z.got 10 _ 11 rfl (hall 10 (by decide)) rfl;have e0:a'.eval (.tmp 0)=.pointer (some ⟨b,0,none⟩):=Z.old' 0;have e4:a'.eval (.tmp 4)=.pointer (some ⟨bH,0,none⟩):=Z.old' 4;have e10:a'.eval (.tmp 10)=.int .i64 (j:Int):=Z.old' 10;obtain⟨u,hu⟩:∃u:Nat->Value,∀t,u t=a'.eval (.tmp t):=⟨_,fun _=>rfl⟩;rw[eE a' 108 u Z.Re Z.defers hu];rw[<-hu]at e0 e4 e10 e11;clear hu Z hall;simp only[List.range,List.range.loop,List.map_cons,List.map_nil];rw[e0,e4,e10,e11];clear e0 e4 e10 e11;replace hH:=hH.on hC;replace hB:=af hB hC;clear hC HB4 KC KK;cases gy
 case true=>
  go_wp2_with fail
  go_ret3
  exact Vz.out (by simp) _ hB
 go_upto_region 12 with fail
 have Sv:=bY hB HR.out.1 HR.out.1.lt;have WR:∀d os,(Sort.grow (redrawn v5 d) os).cell? ⟨b,83,none⟩=some (.slice (some ⟨gH,0,none⟩) n cH):=cell_regrown (o4 Sv hp);have q87:∀d os,(Sort.grow (redrawn v5 d) os).cell? ⟨b,87,none⟩=some (.int .i64 (room:Int)):=cell_regrown (Ov Sv hp);clear Sv;refine wp_region_quiet_below (by kernel_rfl) (by kernel_rfl) ?_
 repeat(first
  | go_big_quiet_step (fail))
 refine wpQuiet_nil ?_;intro v6 hw';have hb:=mI v6 hw';replace hH:=hH.on hb;replace hB:=af hB hb;clear hw' hb WR q87;cases gf
 case true=>
  have hroom:room<=n:=of_decide_eq_true HTF.out;go_wp2_with fail
  go_ret3
  exact HQ2.out (by simp) (by simp) _ hB
 have hroom:¬room<=n:=of_decide_eq_false HTF.out
 have RQ:Hid (Q_ b gH gI gA gW bH):=by
  obtain⟨_,kH⟩:=eP HR.out.2.1 rfl;obtain⟨_,kI⟩:=eP HR.out.2.2.1 rfl;obtain⟨_,kA⟩:=eP HR.out.2.2.2.1 rfl;obtain⟨_,kW⟩:=eP HR.out.2.2.2.2 rfl;have kb:=HR.out.1.out;have lb:=HR.out.1.lt;have lH:=(cx HR.out.2.1 (i:=gH) rfl).1;have lI:=(cx HR.out.2.2.1 (i:=gI) rfl).1;have lA:=(cx HR.out.2.2.2.1 (i:=gA) rfl).1;have lW:=(cx HR.out.2.2.2.2 (i:=gW) rfl).1;have lh:=TX.out;exact h_ ⟨cu kb kH (by decide),cu kb kI (by decide),cu kb kA (by decide),cu kb kW (by decide),cu kH kI (by decide),cu kH kA (by decide),cu kH kW (by decide),cu kI kA (by decide),cu kI kW (by decide),cu kA kW (by decide),by omega,by omega,by omega,by omega,by omega⟩
 have fH:¬(bH=b\/bH=gH):=fun h=>h.elim RQ.out.bb RQ.out.bh
 have fI:¬(bH=b\/bH=gI):=fun h=>h.elim RQ.out.bb RQ.out.bi
 have fW:¬(bH=b\/bH=gW):=fun h=>h.elim RQ.out.bb RQ.out.bw
 have k0:=Kp.of (F:=fun _=>False) hB;have hA:=k0.has HR.out.1 (fun h=>h);have rH:=ax HR.out.2.1 k0 (fun _ _ h=>h);have rI:=ax HR.out.2.2.1 k0 (fun _ _ h=>h);have rA:=ax HR.out.2.2.2.1 k0 (fun _ _ h=>h);have rW:=ax HR.out.2.2.2.2 k0 (fun _ _ h=>h);have HK:=h_ (Kp.of (F:=fun i=>i=b\/i=gH\/i=gI\/i=gA\/i=gW) hB);have T9:Hid (w.heap.size<=v6.heap.size):=h_ hB.size;clear k0 hB HR;go_upto_region 14 with fail
 refine ig (by kernel_rfl) (fun w'=>Kp (fun i=>i=b\/i=gH) v6 w') (fun i v' _=>Q1 b (.slice (some ⟨gH,0,none⟩) n cH) h i v') (fun l a w'=>iE 6 7 10 57 58 v6.heap.size 30 72 68 (fun cs=>cs=aD h) (.slice (some ⟨gH,0,none⟩) n cH) n xH b (fun u=>iu p u (.slice (some ⟨gI,0,none⟩) n cI) (.slice (some ⟨gA,0,none⟩) n cA) (.slice (some ⟨gW,0,none⟩) n cW) room) l a w') (fun _ _=>True) (fun _ _=>trivial) (fun _ _ _ _ _ _ h=>h) (by kernel_rfl) (Kp.of a_.drew) ?_ ?_ ?_;exact fun l hl=>iE.zero hl (ax rH (Kp.of (F:=fun _=>False) a_.drew) (fun _ _ h=>h)) (Has.drew hA)
 ·intro i o lz a wx ho' hnl dq Z;have hC:=Z.c;have hI:=Z.i;have hi:i<11:=(Array.getElem?_eq_some_iff.1 ho').1;have Td:aG wx bH h:=hC.has hH fH;have hlx:v6.heap.size<=wx.heap.size:=hC.size;obtain rfl|rfl|rfl|rfl|rfl|rfl|rfl|rfl|rfl|rfl|rfl:i=0\/i=1\/i=2\/i=3\/i=4\/i=5\/i=6\/i=7\/i=8\/i=9\/i=10:=by omega
  all_goals obtain rfl:=Option.some.inj ho'
  exact aP 0 Z (ak rfl) (NN.dk rfl) (Z.old' 0) (hI.keep (av Z 0));exact aP 1 Z (ak rfl) (NN.dk rfl) (Z.old' 0) (hI.keep (av Z 1));exact aP 2 Z (ak rfl) (cB rfl (ar Z dq 1 52)) rfl (hI.keep (av Z 2));exact aP 3 Z (ak rfl) (de rfl (ar Z dq 2 53) (ow wx b)) rfl (hI.keep (av Z 3));have hsz:=av Z 4;have hks:=du Z hnl 10;have hAx:=hI.ha (by rw[<-gd lz 4 10 hsz (by decide)];exact hks);exact aP 4 Z (ak rfl) (gF rfl (ar Z dq 3 54) (zH (o4 hAx hp))) rfl (hI.keep hsz);exact aP 5 Z (ak rfl) (nw rfl (Z.old' 4) Td za) rfl (hI.keep (av Z 5));have hsz:=av Z 6;have hka:=du Z hnl 7;have hks:=du Z hnl 10;have hb:Below wx.heap.size wx (wx.alloc _):=a_.alloc (Nat.le_refl _) (.cells (aD h) 30);exact o_ 6 Z (ak rfl) (NN.Rz.jI rfl (ar Z dq 5 56) (AI _ za wx)) (hC.trans (Kp.of (F:=fun i=>i=b\/i=gH) hb) (fun i hi _=>hi)) rfl (hI.built hsz hka hks (by decide) (by decide) (by rw[Z.Re];exact(show 57<108 by decide)) rfl);have hsz:=av Z 7;have hks:=du Z hnl 10;have hkb:lz.getD 6 false=true:=dq ⟨6,.data⟩ (by simp) rfl;obtain⟨g,cs,rfl,hg,hgh⟩:=hI.bu hkb hnl;obtain⟨v',w',hr,g1,g2,g3⟩:=vN (ρ:=a.eval) (x:=.tmp 55) (y:=.tmp 57) (Ts:=68) Tryz.underlying68 Co (by decide) (by decide) za (oW h) (ar Z dq 4 55) (hI.ro hnl) hg hgh (by omega);exact o_ 7 Z (ak rfl) (hr _ rfl rfl) (hC.trans (Kp.gb (F:=fun i=>i=b\/i=gH) g2 (fun k hk=>.inr (Option.some.inj hk).symm)) (fun i hi _=>hi)) rfl (hI.appended hsz hks (by decide) (by rw[Z.Re];exact(show 58<108 by decide)) rfl g1 g2 g3 hlx (fun e=>RQ.out.nH (Option.some.inj e).symm));exact aP 8 Z (ak rfl) (cB rfl (ar Z dq 0 51)) rfl (hI.keep (av Z 8));exact aP 9 Z (ak rfl) (de rfl (ar Z dq 8 59) (ow wx b)) rfl (hI.keep (av Z 9))
  ·have hsz:=av Z 10;have hka:lz.getD 7 false=true:=dq ⟨7,.data⟩ (by simp) rfl;obtain⟨v',cs,rfl,hv',hr',hl'⟩:=hI.ap hka hnl;obtain⟨g',c',rfl⟩:=iV hr' (Nat.succ_pos _);have hAx:=hI.ha hnl;have kb:Kp (fun i=>i=b) wx (wx.setCell ⟨b,83,none⟩ (.slice (some ⟨g',0,none⟩) (n+1) c')):=Kp.gb (gO wx b 83 _) (fun k hk=>(Option.some.inj hk).symm)
   exact o8 10 Z (ak rfl) (lY rfl (ar Z dq 9 60) hv' (B7 (Has.free hAx 83) (o4 hAx hp))) (hC.trans kb (fun i hi _=>.inl hi)) rfl (iE.stored hsz (by decide) hka rfl (kD hAx hp _ 0 rfl) (ax hr' kb (fun i hi e=>by
    obtain⟨_,k⟩:=eP hr' hi;exact cu k hAx.out (by decide) e)) hl')
 intro lz a' v7 hall Z;have hC:=Z.c;obtain⟨vH,cs,rfl,hA,rH,lH⟩:=Z.i.st (hall 10 (by decide));have e0:a'.eval (.tmp 0)=.pointer (some ⟨b,0,none⟩):=Z.old' 0;have e4:a'.eval (.tmp 4)=.pointer (some ⟨bH,0,none⟩):=Z.old' 4;have e10:a'.eval (.tmp 10)=.int .i64 (j:Int):=Z.old' 10;obtain⟨u,hu⟩:∃u:Nat->Value,∀t,u t=a'.eval (.tmp t):=⟨_,fun _=>rfl⟩;rw[eE a' 108 u Z.Re Z.defers hu];rw[<-hu]at e0 e4 e10;clear hu Z hall;simp only[List.range,List.range.loop,List.map_cons,List.map_nil];rw[e0,e4,e10];clear e0 e4 e10;replace hH:aG v7 bH h:=hC.has hH fH;replace rI:=ax rI hC (fun i hi=>fun h=>by have e:gI=i:=Option.some.inj hi;exact h.elim (fun h=>RQ.out.nI (e.trans h).symm) (fun h=>RQ.out.HI.symm (e.trans h)));replace rA:=ax rA hC (fun i hi=>fun h=>by have e:gA=i:=Option.some.inj hi;exact h.elim (fun h=>RQ.out.nA (e.trans h).symm) (fun h=>RQ.out.HA.symm (e.trans h)));replace rW:=ax rW hC (fun i hi=>fun h=>by have e:gW=i:=Option.some.inj hi;exact h.elim (fun h=>RQ.out.nW (e.trans h).symm) (fun h=>RQ.out.HW.symm (e.trans h)));replace HK:=h_ (HK.out.trans hC (fun i hi _=>hi.elim .inl (fun h=>.inr (.inl h))));have LH:Hid (∀k,vH.ownBlock=some k->k=gH\/w.heap.size<=k):=h_ fun k hk=>lH.elim (fun e=>.inl (Option.some.inj (e.symm.trans hk)).symm) (fun⟨g,e,hg⟩=>.inr (by have:=Option.some.inj (e.symm.trans hk);have:=T9.out;omega))
 replace T9:Hid (w.heap.size<=v7.heap.size):=h_ (Nat.le_trans T9.out hC.size);clear hC lH;have RD:=hA.out;obtain⟨_,h0⟩:=eP rI (i:=gI) rfl;go_upto_region 15 with fail
 refine ig (by kernel_rfl) (fun w'=>Kp (fun i=>i=b\/i=gI) v7 w') (fun i v' _=>QZ b (.slice (some ⟨gI,0,none⟩) n cI) h id i v') (fun l a w'=>iE 7 8 11 68 69 v7.heap.size 28 72 32 (fun cs=>cs=ae id) (.slice (some ⟨gI,0,none⟩) n cI) n xI b (fun u=>iu p vH u (.slice (some ⟨gA,0,none⟩) n cA) (.slice (some ⟨gW,0,none⟩) n cW) room) l a w') (fun _ _=>True) (fun _ _=>trivial) (fun _ _ _ _ _ _ h=>h) (by kernel_rfl) (Kp.of a_.drew) ?_ ?_ ?_;exact fun l hl=>iE.zero hl (ax rI (Kp.of (F:=fun _=>False) a_.drew) (fun _ _ h=>h)) (Has.drew hA)
 ·intro i o lz a wx ho' hnl dq Z;have hC:=Z.c;have hI:=Z.i;have hi:i<12:=(Array.getElem?_eq_some_iff.1 ho').1;have Td:aG wx bH h:=hC.has hH fI;have hlx:v7.heap.size<=wx.heap.size:=hC.size;obtain rfl|rfl|rfl|rfl|rfl|rfl|rfl|rfl|rfl|rfl|rfl|rfl:i=0\/i=1\/i=2\/i=3\/i=4\/i=5\/i=6\/i=7\/i=8\/i=9\/i=10\/i=11:=by omega
  all_goals obtain rfl:=Option.some.inj ho'
  exact aP 0 Z (ak rfl) (NN.dk rfl) (Z.old' 0) (hI.keep (av Z 0));exact aP 1 Z (ak rfl) (NN.dk rfl) (Z.old' 0) (hI.keep (av Z 1));exact aP 2 Z (ak rfl) (cB rfl (ar Z dq 1 62)) rfl (hI.keep (av Z 2));exact aP 3 Z (ak rfl) (de rfl (ar Z dq 2 63) (oy wx b)) rfl (hI.keep (av Z 3));have hsz:=av Z 4;have hks:=du Z hnl 11;have hAx:=hI.ha (by rw[<-gd lz 4 11 hsz (by decide)];exact hks);exact aP 4 Z (ak rfl) (gF rfl (ar Z dq 3 64) (AT (A0 hAx hp))) rfl (hI.keep hsz);exact aP 5 Z (ak rfl) (nw rfl (Z.old' 4) Td za) rfl (hI.keep (av Z 5))
  ·have hsz:=av Z 6;have Ym:a.eval (.tmp 66)=.agg (aD h):=(ar Z dq 5 66);exact lZ (S:=mJ) 6 Z (ak rfl) (f:=75) (args:=#[a.eval (.tmp 66)]) (by kernel_rfl) (by rw[Ym];exact KI.out wx) (fun w' hb=>⟨hC.trans (Kp.of (F:=fun i=>i=b\/i=gI) hb) (fun i hi _=>hi),trivial,rfl,(hI.on hb).keep hsz⟩)
  have hsz:=av Z 7;have hka:=du Z hnl 8;have hks:=du Z hnl 11;have hb:Below wx.heap.size wx (wx.alloc _):=a_.alloc (Nat.le_refl _) (.cells (ae id) 28);exact o_ 7 Z (ak rfl) (NN.Rz.jI rfl (ar Z dq 6 67) (L5 _ zI wx)) (hC.trans (Kp.of (F:=fun i=>i=b\/i=gI) hb) (fun i hi _=>hi)) rfl (hI.built hsz hka hks (by decide) (by decide) (by rw[Z.Re];exact(show 68<108 by decide)) rfl);have hsz:=av Z 8;have hks:=du Z hnl 11;have hkb:lz.getD 7 false=true:=dq ⟨7,.data⟩ (by simp) rfl;obtain⟨g,cs,rfl,hg,hgh⟩:=hI.bu hkb hnl;obtain⟨v',w',hr,g1,g2,g3⟩:=vN (ρ:=a.eval) (x:=.tmp 65) (y:=.tmp 68) (Ts:=69) Tryz.underlying69 Cg (by decide) (by decide) zI (by rw[il];exact Lib.byteCells_one id) (ar Z dq 4 65) (hI.ro hnl) hg hgh (by omega);exact o_ 8 Z (ak rfl) (hr _ rfl rfl) (hC.trans (Kp.gb (F:=fun i=>i=b\/i=gI) g2 (fun k hk=>.inr (Option.some.inj hk).symm)) (fun i hi _=>hi)) rfl (hI.appended hsz hks (by decide) (by rw[Z.Re];exact(show 69<108 by decide)) rfl g1 g2 g3 hlx (fun e=>RQ.out.nI (Option.some.inj e).symm));exact aP 9 Z (ak rfl) (cB rfl (ar Z dq 0 61)) rfl (hI.keep (av Z 9));exact aP 10 Z (ak rfl) (de rfl (ar Z dq 9 70) (oy wx b)) rfl (hI.keep (av Z 10))
  ·have hsz:=av Z 11;have hka:lz.getD 8 false=true:=dq ⟨8,.data⟩ (by simp) rfl;obtain⟨v',cs,rfl,hv',hr',hl'⟩:=hI.ap hka hnl;obtain⟨g',c',rfl⟩:=iV hr' (Nat.succ_pos _);have hAx:=hI.ha hnl;have kb:Kp (fun i=>i=b) wx (wx.setCell ⟨b,84,none⟩ (.slice (some ⟨g',0,none⟩) (n+1) c')):=Kp.gb (gO wx b 84 _) (fun k hk=>(Option.some.inj hk).symm)
   exact o8 11 Z (ak rfl) (lY rfl (ar Z dq 10 71) hv' (zD (Has.free hAx 84) (A0 hAx hp))) (hC.trans kb (fun i hi _=>.inl hi)) rfl (iE.stored hsz (by decide) hka rfl (kD hAx hp _ 1 rfl) (ax hr' kb (fun i hi e=>by
    obtain⟨_,k⟩:=eP hr' hi;exact cu k hAx.out (by decide) e)) hl')
 intro lz a' v8 hall Z;have hC:=Z.c;obtain⟨vI,cs,rfl,hA,rI,lI⟩:=Z.i.st (hall 11 (by decide));have e0:a'.eval (.tmp 0)=.pointer (some ⟨b,0,none⟩):=Z.old' 0;have e4:a'.eval (.tmp 4)=.pointer (some ⟨bH,0,none⟩):=Z.old' 4;have e10:a'.eval (.tmp 10)=.int .i64 (j:Int):=Z.old' 10;obtain⟨u,hu⟩:∃u:Nat->Value,∀t,u t=a'.eval (.tmp t):=⟨_,fun _=>rfl⟩;rw[eE a' 108 u Z.Re Z.defers hu];rw[<-hu]at e0 e4 e10;clear hu Z hall;simp only[List.range,List.range.loop,List.map_cons,List.map_nil];rw[e0,e4,e10];clear e0 e4 e10;replace hH:aG v8 bH h:=hC.has hH fI;replace rH:=ax rH hC (fun i hi=>fun h=>by obtain⟨_,k⟩:=eP rH hi;exact h.elim (fun h=>cu k RD (by decide) h) (fun h=>cu k h0 (by decide) h));replace rA:=ax rA hC (fun i hi=>fun h=>by have e:gA=i:=Option.some.inj hi;exact h.elim (fun h=>RQ.out.nA (e.trans h).symm) (fun h=>RQ.out.IA.symm (e.trans h)));replace rW:=ax rW hC (fun i hi=>fun h=>by have e:gW=i:=Option.some.inj hi;exact h.elim (fun h=>RQ.out.nW (e.trans h).symm) (fun h=>RQ.out.IW.symm (e.trans h)));replace HK:=h_ (HK.out.trans hC (fun i hi _=>hi.elim .inl (fun h=>.inr (.inr (.inl h)))));have LI:Hid (∀k,vI.ownBlock=some k->k=gI\/w.heap.size<=k):=h_ fun k hk=>lI.elim (fun e=>.inl (Option.some.inj (e.symm.trans hk)).symm) (fun⟨g,e,hg⟩=>.inr (by have:=Option.some.inj (e.symm.trans hk);have:=T9.out;omega))
 replace T9:Hid (w.heap.size<=v8.heap.size):=h_ (Nat.le_trans T9.out hC.size);clear hC lI;replace RD:=hA.out;obtain⟨_,h0⟩:=eP rW (i:=gW) rfl;go_upto_region 16 with fail
 refine ig (by kernel_rfl) (fun w'=>Kp (fun i=>i=b\/i=gW) v8 w') (fun i v' _=>QY b bH gW j z xo xs (.slice (some ⟨gW,0,none⟩) n cW) h.bits i v') (fun l a w'=>iE 16 17 20 88 89 v8.heap.size 26 72 4 (fun cs=>∃z,(z<NN.Nm.ai/\z=xs)/\cs=NN.aa z) (.slice (some ⟨gW,0,none⟩) n cW) n xW b (fun u=>iu p vH vI (.slice (some ⟨gA,0,none⟩) n cA) u room) l a w') (fun _ _=>True) (fun _ _=>trivial) (fun _ _ _ _ _ _ h=>h) (by kernel_rfl) (Kp.of a_.drew) ?_ ?_ ?_;exact fun l hl=>iE.zero hl (ax rW (Kp.of (F:=fun _=>False) a_.drew) (fun _ _ h=>h)) (Has.drew hA)
 ·intro i o lz a wx ho' hnl dq Z;have hC:=Z.c;have hI:=Z.i;have hi:i<21:=(Array.getElem?_eq_some_iff.1 ho').1;have Td:aG wx bH h:=hC.has hH fW;have hlx:v8.heap.size<=wx.heap.size:=hC.size;obtain rfl|rfl|rfl|rfl|rfl|rfl|rfl|rfl|rfl|rfl|rfl|rfl|rfl|rfl|rfl|rfl|rfl|rfl|rfl|rfl|rfl:i=0\/i=1\/i=2\/i=3\/i=4\/i=5\/i=6\/i=7\/i=8\/i=9\/i=10\/i=11\/i=12\/i=13\/i=14\/i=15\/i=16\/i=17\/i=18\/i=19\/i=20:=by omega
  all_goals obtain rfl:=Option.some.inj ho'
  exact aP 0 Z (ak rfl) (NN.dk rfl) (Z.old' 0) (hI.keep (av Z 0));exact aP 1 Z (ak rfl) (NN.dk rfl) (Z.old' 0) (hI.keep (av Z 1));exact aP 2 Z (ak rfl) (cB rfl (ar Z dq 1 73)) rfl (hI.keep (av Z 2));exact aP 3 Z (ak rfl) (de rfl (ar Z dq 2 74) (kN wx b)) rfl (hI.keep (av Z 3));have hsz:=av Z 4;have hks:=du Z hnl 20;have hAx:=hI.ha (by rw[<-gd lz 4 20 hsz (by decide)];exact hks);exact aP 4 Z (ak rfl) (gF rfl (ar Z dq 3 75) (xJ (sR hAx hp))) rfl (hI.keep hsz);exact aP 5 Z (ak rfl) (NN.dk rfl) (Z.old' 0) (hI.keep (av Z 5));exact aP 6 Z (ak rfl) (cB rfl (ar Z dq 5 77)) rfl (hI.keep (av Z 6));exact aP 7 Z (ak rfl) (de rfl (ar Z dq 6 78) (kN wx b)) rfl (hI.keep (av Z 7));have hsz:=av Z 8;have hks:=du Z hnl 20;have hAx:=hI.ha (by rw[<-gd lz 8 20 hsz (by decide)];exact hks);exact aP 8 Z (ak rfl) (gF rfl (ar Z dq 7 79) (xJ (sR hAx hp))) rfl (hI.keep hsz);exact aP 9 Z (ak rfl) (NN.dk rfl) (Z.old' 10) (hI.keep (av Z 9));exact aP 10 Z (ak rfl) (ja rfl (ar Z dq 8 80) (ar Z dq 9 81) (Nv wx gW j n cW HJ.out)) rfl (hI.keep (av Z 10));have hsz:=av Z 11;have hka:=du Z hnl 17;exact aP 11 Z (ak rfl) (G6 rfl (ar Z dq 10 82) (Y4.out _ (hI.ro (by rw[<-gd lz 11 17 hsz (by decide)];exact hka)))) rfl (hI.keep hsz);exact aP 12 Z (ak rfl) (de rfl (Z.old' 4) (ot wx bH)) rfl (hI.keep (av Z 12));exact aP 13 Z (ak rfl) (NN.kU rfl (ar Z dq 12 84) (Td.bits ho)) rfl (hI.keep (av Z 13))
  ·have hsz:=av Z 14;have e85:a.eval (.tmp 85)=.int .i64 h.bits:=(ar Z dq 13 85);refine yZ (S:=mJ) 14 Z (ak rfl) (f:=76) (args:=#[a.eval (.tmp 85)]) (by kernel_rfl) ?_;rw[e85];refine(KO.out wx).mono ?_;rintro e w' ⟨zq,hq,rfl,hb⟩;exact⟨_,rfl,hC.trans (Kp.of (F:=fun i=>i=b\/i=gW) hb) (fun i hi _=>hi),trivial,⟨zq,hq,rfl⟩,(hI.on hb).keep hsz⟩
  ·have hsz:=av Z 15;have e83:a.eval (.tmp 83)=.agg (NN.aa z):=(ar Z dq 11 83);obtain⟨zb,hzb,e86⟩:pO xo (a.eval (.tmp 86)):=(ar Z dq 14 86);refine yZ (S:=mJ) 15 Z (ak rfl) (f:=80) (args:=#[a.eval (.tmp 83),a.eval (.tmp 86)]) (by kernel_rfl) ?_;rw[e83,e86];refine(KS.out zb hzb wx).mono ?_;rintro e w' ⟨zq,hq,rfl,hb⟩;exact⟨_,rfl,hC.trans (Kp.of (F:=fun i=>i=b\/i=gW) hb) (fun i hi _=>hi),trivial,⟨zq,hq,rfl⟩,(hI.on hb).keep hsz⟩
  have hsz:=av Z 16;have hka:=du Z hnl 17;have hks:=du Z hnl 20;obtain⟨zb,hzb,e87⟩:pO xs (a.eval (.tmp 87)):=(ar Z dq 15 87);have hb:Below wx.heap.size wx (wx.alloc _):=a_.alloc (Nat.le_refl _) (.cells (NN.aa zb) 26);exact o_ 16 Z (ak rfl) (NN.Rz.jI rfl e87 (JA _ (NN.fJ zb) wx)) (hC.trans (Kp.of (F:=fun i=>i=b\/i=gW) hb) (fun i hi _=>hi)) rfl (hI.built hsz hka hks (by decide) (by decide) (by rw[Z.Re];exact(show 88<108 by decide)) ⟨zb,hzb,rfl⟩);have hsz:=av Z 17;have hks:=du Z hnl 20;have hkb:lz.getD 16 false=true:=dq ⟨16,.data⟩ (by simp) rfl;obtain⟨g,cs,⟨zb,hzb,rfl⟩,hg,hgh⟩:=hI.bu hkb hnl;obtain⟨v',w',hr,g1,g2,g3⟩:=vN (ρ:=a.eval) (x:=.tmp 76) (y:=.tmp 88) (Ts:=70) Tryz.underlying70 J8 (by decide) (by decide) (NN.fJ zb) (yy zb) (ar Z dq 4 76) (hI.ro hnl) hg hgh (by omega);exact o_ 17 Z (ak rfl) (hr _ rfl rfl) (hC.trans (Kp.gb (F:=fun i=>i=b\/i=gW) g2 (fun k hk=>.inr (Option.some.inj hk).symm)) (fun i hi _=>hi)) rfl (hI.appended hsz hks (by decide) (by rw[Z.Re];exact(show 89<108 by decide)) ⟨zb,hzb,rfl⟩ g1 g2 g3 hlx (fun e=>RQ.out.nW (Option.some.inj e).symm));exact aP 18 Z (ak rfl) (cB rfl (ar Z dq 0 72)) rfl (hI.keep (av Z 18));exact aP 19 Z (ak rfl) (de rfl (ar Z dq 18 90) (kN wx b)) rfl (hI.keep (av Z 19))
  ·have hsz:=av Z 20;have hka:lz.getD 17 false=true:=dq ⟨17,.data⟩ (by simp) rfl;obtain⟨v',cs,⟨zb,hzb,rfl⟩,hv',hr',hl'⟩:=hI.ap hka hnl;obtain⟨g',c',rfl⟩:=iV hr' (Nat.succ_pos _);have hAx:=hI.ha hnl;have kb:Kp (fun i=>i=b) wx (wx.setCell ⟨b,86,none⟩ (.slice (some ⟨g',0,none⟩) (n+1) c')):=Kp.gb (gO wx b 86 _) (fun k hk=>(Option.some.inj hk).symm)
   exact o8 20 Z (ak rfl) (lY rfl (ar Z dq 19 91) hv' (vm (Has.free hAx 86) (sR hAx hp))) (hC.trans kb (fun i hi _=>.inl hi)) rfl (iE.stored hsz (by decide) hka ⟨zb,hzb,rfl⟩ (kD hAx hp _ 3 rfl) (ax hr' kb (fun i hi e=>by
    obtain⟨_,k⟩:=eP hr' hi;exact cu k hAx.out (by decide) e)) hl')
 intro lz a' v9 hall Z;have hC:=Z.c;obtain⟨vW,cs,⟨zb,hzb,rfl⟩,hA,rW,lW⟩:=Z.i.st (hall 20 (by decide));have e0:a'.eval (.tmp 0)=.pointer (some ⟨b,0,none⟩):=Z.old' 0;have e4:a'.eval (.tmp 4)=.pointer (some ⟨bH,0,none⟩):=Z.old' 4;have e10:a'.eval (.tmp 10)=.int .i64 (j:Int):=Z.old' 10;obtain⟨u,hu⟩:∃u:Nat->Value,∀t,u t=a'.eval (.tmp t):=⟨_,fun _=>rfl⟩;rw[eE a' 108 u Z.Re Z.defers hu];rw[<-hu]at e0 e4 e10;clear hu Z hall;simp only[List.range,List.range.loop,List.map_cons,List.map_nil];rw[e0,e4,e10];clear e0 e4 e10;replace hH:aG v9 bH h:=hC.has hH fW;replace rH:=ax rH hC (fun i hi=>fun h=>by obtain⟨_,k⟩:=eP rH hi;exact h.elim (fun h=>cu k RD (by decide) h) (fun h=>cu k h0 (by decide) h));replace rI:=ax rI hC (fun i hi=>fun h=>by obtain⟨_,k⟩:=eP rI hi;exact h.elim (fun h=>cu k RD (by decide) h) (fun h=>cu k h0 (by decide) h));replace rA:=ax rA hC (fun i hi=>fun h=>by have e:gA=i:=Option.some.inj hi;exact h.elim (fun h=>RQ.out.nA (e.trans h).symm) (fun h=>RQ.out.AW (e.trans h)));replace HK:=h_ (HK.out.trans hC (fun i hi _=>hi.elim .inl (fun h=>.inr (.inr (.inr (.inr h))))));have LW:Hid (∀k,vW.ownBlock=some k->k=gW\/w.heap.size<=k):=h_ fun k hk=>lW.elim (fun e=>.inl (Option.some.inj (e.symm.trans hk)).symm) (fun⟨g,e,hg⟩=>.inr (by have:=Option.some.inj (e.symm.trans hk);have:=T9.out;omega))
 replace T9:Hid (w.heap.size<=v9.heap.size):=h_ (Nat.le_trans T9.out hC.size);clear hC lW;have HZb:=h_ hzb;clear RD h0 hzb;have hb2:Below v9.heap.size v9 (v9.alloc (.cells #[.int .i64 (j:Int)] 3)):=aY;have k2:=Kp.of (F:=fun _=>False) hb2;have rA2:=ax rA k2 (fun _ _ h=>h);have hA2:=k2.has hA (fun h=>h);have hz2:(v9.alloc (.cells #[.int .i64 (j:Int)] 3)).cell? ⟨v9.heap.size,0,none⟩=some (.int .i64 (j:Int)):=Has.cell (Has.new _ _) 0;have c85:=vT hA hp;have hmk:=fun w=>nM w (j:Int)
 go_upto_region 18 with(first
  | ((with_reducible refine Nx rfl _ _ rfl (.slice (some ⟨gA,0,none⟩) n cA) n lA rfl rA2 v9.heap.size (j:Int) rfl hz2 Te ?_);intro vA v10 Un Vo WY;obtain⟨gA',VL,rfl⟩:=iV Un (Nat.succ_pos _);have SX:Has v10 b (iu p vH vI (.slice (some ⟨gA,0,none⟩) n cA) vW room) 72:=(Vo.block b (Has.lt hA2) (fun e=>RQ.out.nA (Option.some.inj e))).trans hA2;have f85:=Has.free SX 85;have d85:=vT SX hp)
  | (with_reducible refine Pu rfl _ _ rfl ⟨b,85,none⟩ _ _ _ _ rfl rfl f85 d85 ?_))
 simp only[Act.put];have lA:∀k,(Value.slice (some ⟨gA',0,none⟩) (n+1) VL).ownBlock=some k->k=gA\/w.heap.size<=k:=fun k hk=>WY.elim (fun e=>.inl (Option.some.inj (e.symm.trans hk)).symm) (fun e=>.inr (by have:=Option.some.inj (e.symm.trans hk);have:=T9.out;have:=hb2.size;omega))
 have LA:=h_ lA;have kA:Kp (fun i=>i=b\/i=gA) v9 (v10.setCell ⟨b,85,none⟩ (.slice (some ⟨gA',0,none⟩) (n+1) VL)):=((Kp.of (F:=fun i=>i=b\/i=gA) hb2).trans (Kp.gb (F:=fun i=>i=b\/i=gA) Vo (fun k hk=>.inr (Option.some.inj hk).symm)) (fun i hi _=>hi)).trans (Kp.gb (F:=fun i=>i=b\/i=gA) (gO v10 b 85 _) (fun k hk=>.inl (Option.some.inj hk).symm)) (fun i hi _=>hi);have Um:=kD SX hp (.slice (some ⟨gA',0,none⟩) (n+1) VL) 2 rfl
 have WZ:=ax Un (Kp.gb (F:=fun i=>i=b) (gO v10 b 85 (.slice (some ⟨gA',0,none⟩) (n+1) VL)) (fun k hk=>(Option.some.inj hk).symm)) (fun i hi e=>by
  obtain⟨_,k⟩:=eP Un hi;exact cu k SX.out (by decide) e)
 have RD:=hA.out;obtain⟨_,h0⟩:=eP rA (i:=gA) rfl;replace rH:=ax rH kA (fun i hi=>fun h=>by obtain⟨_,k⟩:=eP rH hi;exact h.elim (fun h=>cu k RD (by decide) h) (fun h=>cu k h0 (by decide) h));replace rI:=ax rI kA (fun i hi=>fun h=>by obtain⟨_,k⟩:=eP rI hi;exact h.elim (fun h=>cu k RD (by decide) h) (fun h=>cu k h0 (by decide) h));replace rW:=ax rW kA (fun i hi=>fun h=>by obtain⟨_,k⟩:=eP rW hi;exact h.elim (fun h=>cu k RD (by decide) h) (fun h=>cu k h0 (by decide) h));replace HK:=h_ (HK.out.trans kA (fun i hi _=>hi.elim .inl (fun h=>.inr (.inr (.inr (.inl h))))));clear RD h0 kA lA hA hA2 rA rA2 k2 hz2 hmk hb2 Vo WY f85 d85 c85 SX Un hH;generalize Y5:v10.setCell ⟨b,85,none⟩ (.slice (some ⟨gA',0,none⟩) (n+1) VL)=v11 at*;clear Y5;have Vp:Has v11 b (iu p vH vI (.slice (some ⟨gA',0,none⟩) (n+1) VL) vW room) 72:=Um;clear Um;obtain⟨gH',cH',rfl⟩:=iV rH (Nat.succ_pos _);have HF:=h_ (HQ3.out rfl rfl v11 _ vI _ vW zb HZb.out Vp rH rI WZ rW LH.out LI.out LA.out LW.out HK.out);have T8:=o4 Vp hp;clear Vp rH rI WZ rW HK;obtain⟨n1,hn1⟩:∃n1,n1=n+1:=⟨_,rfl⟩;rw[<-hn1]at T8;have wm:IntKind.i64.wrap ((n1:Int)-1)=(n:Int):=by rw[IntKind.wrap_i64];omega
 clear hn1;go_wp2_with fail
 go_ret3
 exact HF.out
end An
namespace An
open Go.RowKit Mem Sc
open Ar (aq Ru aB Ok)
theorem vQ(r:Ru)(e:aq)(h:Hd)(now:Int):0<=Ar.km r e h now:=by
 unfold Ar.km rU;repeat' split
 all_goals omega
variable{r:Ru}
theorem QB{p:NN.Pr}{t:Tl}(h:Alike p t r)(hs:List Hd)(hd:Hd)(now:Int):k7 p r.gs r.cs (gE p r.g hs hs.length) hd now=k7 r.p r.gs r.cs (gE r.p r.g hs hs.length) hd now:=by obtain⟨pl,pi,ps,pf,pe,pt⟩:=p;obtain⟨⟨rl,ri,rs,rf,re,rt⟩,_,_,_,_⟩:=r;obtain⟨h1,h2,h3,h4,h5,h6⟩:=h;simp only at h1 h2 h3 h4 h5;subst h1 h2 h3 h4 h5;rfl
variable{w:World}{B b:Nat}{F:Nat->Prop}{M:List aq}
theorem ir.keep{w':World}(h:ir w B F b r M)(hb:Bl w w'):ir w' B (iS F w w') b r M:=by have h0:=h.1;have h1:=h.2.1;have hs:=hb.size;exact(h.below hb).wide (fun _ hi=>.inl hi) fun i hi=>hi.elim (fun hi=>⟨(h1 i hi).1,by have:=(h1 i hi).2;omega⟩) fun hi=>⟨Nat.le_trans h0 hi.1,hi.2⟩
theorem uU(hR:ir w B F b r M)(hM:Ok r M)(hl:M.length<=900)(hgl:r.gs.length<=1000)(hcl:r.cs.length<=1000)(W0:2<=r.p.Rj)(h:Hd)(ho:h.ok)(now:Int)(n1:-9223372036854775808<=now)(n2:now<=9223372036854775807):aN 40 #[ah b,.agg (aD h),i_ now] w fun e w'=>e=.returned (.tuple #[i_ (Ar.add r M h now).1.1,i_ (Ar.add r M h now).1.2.1,i_ (Ar.add r M h now).1.2.2])/\ir w' B (iS F w w') b r (Ar.add r M h now).2/\Kp F w w':=by
 have hpos:=hM.pos;have KG:∀g,decide h.P=g->aV w 73 #[.agg (aD h)] (.bool g):=fun g hg=>h_ fun w' _=>by rw[<-hg];exact lQ h ho w'
 by_cases hP:h.P
 ·have Ti:=KG true (decide_eq_true hP);have KI:x9 75 #[.agg (aD h)] (.agg (ae h.id)):=h_ fun w'=>iZ h ho w'
  have Xm:aV w 75 #[.agg (aD h)] (.agg (ae h.id)):=h_ fun w' _=>iZ h ho w'
  cases h1:Ar.jW r.g M h.id with
  | some i=>
   have ea:Ar.add r M h now=((((i:Nat):Int),(0:Int),(0:Int)),M):=by unfold Ar.add;rw[if_neg (fun hh=>hh hP),h1]
   rw[ea];refine(Pc b h ho now w Ti h.id Xm i (h_ fun w' hb=>?_)).mono ?_;have:=vt (hR.below hb) hpos (by omega) h.id (ij h);rwa[h1]at this
   rintro e w' ⟨rfl,hb⟩;exact⟨rfl,hR.keep hb,Kp.of hb⟩
  | none=>
   have KF:aV w 77 #[ah b,.agg (ae h.id)] (i_ (-1)):=h_ fun w' hb=>by
    have:=vt (hR.below hb) hpos (by omega) h.id (ij h);rwa[h1]at this
   cases h2:Ar.jW r.g M h.prev with
   | none=>
    have ea:Ar.add r M h now=((-1,2,5),M):=(by unfold Ar.add;rw[if_neg (fun hh=>hh hP),h1];simp only[h2]);rw[ea];refine(PA b h ho now w Ti h.id Xm KF (h_ fun w' hb=>?_)).mono ?_;have:=vt (hR.below hb) hpos (by omega) h.prev ho.1;rwa[h2]at this
    rintro e w' ⟨rfl,hb⟩;exact⟨rfl,hR.keep hb,Kp.of hb⟩
   | some j=>
    have KP:aV w 77 #[ah b,.agg (ae h.prev)] (i_ j):=h_ fun w' hb=>by
     have:=vt (hR.below hb) hpos (by omega) h.prev ho.1;rwa[h2]at this
    obtain⟨d,hd,_⟩:=Ar.pM h2;have hjl:=(List.getElem?_eq_some_iff.1 hd).1;have eD:M.getD j aB=d:=(by rw[List.getD_eq_getElem?_getD,hd];rfl);have hdl:=(hM.chain j d hd).1;have hR':=hR;obtain⟨b0,b1,b2,p,t,vH,vI,vA,vW,ws,h3,h4,h5,g1,g2,g3,g4⟩:=hR';have rH:=h3.SG;have rI:=h3.SV;have rA:=h3.SH;have rW:=h3.SW;rw[List.length_map]at rH rI rA;have h5l:ws.length=M.length:=(by rw[h5,List.length_map]);rw[h5l]at rW;obtain⟨gH,cH,rfl⟩:=iV rH hpos;obtain⟨gI,cI,rfl⟩:=iV rI hpos;obtain⟨gA,cA,rfl⟩:=iV rA hpos;obtain⟨gW,cW,rfl⟩:=iV rW hpos;obtain⟨z,hz⟩:∃z,ws[j]?=some z:=⟨_,List.getElem?_eq_getElem (by omega)⟩;have hzb:=h3.small z (List.mem_of_getElem? hz)
    have hze:z=fe r d.hs:=by
     rw[h5,List.getElem?_map,hd]at hz;exact(Option.some.inj hz).symm
    have Y4:Hid (∀w':World,w'.ownsRow 0 26 4 (.slice (aW gW) M.length cW) M.length (ws.flatMap fun z=>(NN.aa z).toList)->w'.rangeAt gW (j*4) (NN.aa z).toList):=h_ fun w' hr=>by
     obtain⟨A,C,e,hA⟩:=pz (fun z=>(NN.aa z).toList) 4 ws (fun z _=>by rw[Array.length_toList,NN.fJ]) j z hz;rw[e]at hr;obtain⟨g,c,e1,e2⟩:=kM hr hpos;rw[hA]at e2;cases e1;exact e2
    have KC:Hid (∀w',Below w.heap.size w w'->aN 79 #[ah b,i_ j] w' fun e w''=>∃v,e=.returned v/\(∃ad c,v=.slice ad (d.hs.length+1) c/\aM w'' ad (r.g::d.hs))/\Below w'.heap.size w' w''):=h_ fun w' hb=>(Fk (hR.below hb) hM hl j d hd).mono fun e w'' ⟨ad,c,e1,e2,_,e3⟩=>⟨_,e1,⟨ad,c,rfl,e2⟩,e3⟩
    have ey:k7 p r.gs r.cs (gE p r.g d.hs d.hs.length) h now=Ar.km r d h now:=(QB h4 d.hs h now).trans (hM.Yq W0 hd h now n1 n2)
    have KK:Hid (∀w' ad c,Below w.heap.size w w'->aM w' ad (r.g::d.hs)->an 78 #[.agg (NN.aE p),.slice ad (d.hs.length+1) c,.agg (aD h),i_ now] w' (i_ (Ar.km r d h now))):=h_ fun w' ad c hb hH=>by
     rw[<-ey];have hk:=h3.below hb;exact GG p hk.RG t hk.tt r.gs r.cs hk.gn hk.cn (by rw[hk.gn];exact hgl) (by rw[hk.cn];exact hcl) ad r.g d.hs _ c rfl (by omega) h ho now w' hH hk.RC.now hk.checks.now
    have hwp:=vQ r d h now;refine NM b p h3.RG r.room M.length gH cH gI cI gA cA gW cW _ _ _ (M.map aq.up) h ho now w h3.has rH rI rA rW hl j hjl z hzb Y4 Ti h.id (ij h) KI KF KP (d.hs.length+1) (r.g::d.hs) KC (Ar.km r d h now) KK _ (NN.Nm.cap (fe r d.hs+NN.ofBits h.bits)) (h_ (NN.DN h.bits)) (h_ fun x hx=>?_) _ _ rfl rfl _ (h_ fun hy w' hb=>?_) (h_ fun hy hf w' hb=>?_) (h_ fun hy hf w' vH vI vA vW z' hz' a1 a2 a3 a4 a5 l1 l2 l3 l4 hk=>?_);exact fun w'=>(NN.wR z x hzb hx.1 w').mono fun e w'' ⟨e1,e2⟩=>⟨_,⟨NN.Nm.nj _,by rw[hze,hx.2]⟩,e1,e2⟩
    have h3':¬Ar.km r d h now=0:=(by have:=of_decide_eq_true hy;omega);have ea:Ar.add r M h now=((-1,Ar.km r d h now,8),M):=(by unfold Ar.add;rw[if_neg (fun hh=>hh hP),h1];simp only[h2,eD];rw[if_pos h3']);rw[ea];exact⟨rfl,hR.keep hb,Kp.of hb⟩;have h3':Ar.km r d h now=0:=(by have:=of_decide_eq_false hy;omega);have ea:Ar.add r M h now=((-1,0,6),M):=(by unfold Ar.add;rw[if_neg (fun hh=>hh hP),h1];simp only[h2,eD];rw[if_neg (fun hh=>hh h3'),if_pos (of_decide_eq_true hf)]);rw[ea];exact⟨rfl,hR.keep hb,Kp.of hb⟩
    ·have h3':Ar.km r d h now=0:=(by have:=of_decide_eq_false hy;omega);have ea:Ar.add r M h now=((((M.length:Nat):Int),(0:Int),(0:Int)),M++[⟨d.hs++[h],(j:Int)⟩]):=(by unfold Ar.add;rw[if_neg (fun hh=>hh hP),h1];simp only[h2,eD];rw[if_neg (fun hh=>hh h3'),if_neg (of_decide_eq_false hf)]);rw[ea];have fH:=g1 gH rfl;have fI:=g2 gI rfl;have fA:=g3 gA rfl;have fW:=g4 gW rfl;have ai:∀i,(i=b\/i=gH\/i=gI\/i=gA\/i=gW)->F i:=by rintro i (rfl|rfl|rfl|rfl|rfl)<;>assumption
     have nx:∀{T:TypeId}{size n:Nat}{v:Value}{xs:List Value}{g:Nat},F g->w'.ownsRow 0 T size v n xs->(∀k,v.ownBlock=some k->k=g\/w.heap.size<=k)->∀i,v.ownBlock=some i->iS F w w' i:=fun hg hr hv i hi=>(hv i hi).elim (fun e=>.inl (e▸hg)) (fun e=>.inr ⟨e,(cx hr hi).1⟩)
     have nb:∀i,iS F w w' i->¬i<B:=fun i hi hlt=>hi.elim (fun h=>by have:=(b1 i h).1;omega) (fun h=>by omega)
     have eh:(M++[(⟨d.hs++[h],(j:Int)⟩:aq)]).map (aq.h r.g)=M.map (aq.h r.g)++[h]:=(by rw[List.map_append,List.map_singleton,Ar.iw]);have ei:(M++[(⟨d.hs++[h],(j:Int)⟩:aq)]).map (fun e=>(e.h r.g).id)=M.map (fun e=>(e.h r.g).id)++[h.id]:=by rw[List.map_append,List.map_singleton,Ar.iw]
     refine⟨rfl,⟨Nat.le_trans b0 hk.size,fun i hi=>hi.elim (fun hi=>⟨(b1 i hi).1,Nat.lt_of_lt_of_le (b1 i hi).2 hk.size⟩) (fun hi=>⟨Nat.le_trans b0 hi.1,hi.2⟩),.inl b2,p,t,vH,vI,vA,vW,ws++[z'],?_,h4,by rw[List.map_append,<-h5,hz'.2,List.map_singleton,AM],nx fH a2 l1,nx fI a3 l2,nx fA a4 l3,nx fW a5 l4⟩,hk.mono fun i hi _=>ai i hi⟩;have W5:∀i,i<B->¬(i=b\/i=gH\/i=gI\/i=gA\/i=gW):=fun i hi hf=>by have:=(b1 i (ai i hf)).1;omega
     exact{
      has:=a1,RG:=h3.RG,one:=h3.one,tt:=h3.tt,tok:=h3.tok,gn:=h3.gn,cn:=h3.cn
      SG:=by rw[eh,List.flatMap_append];simpa using a2
      SV:=by rw[ei,List.flatMap_append];simpa using a3
      SH:=by rw[List.map_append];simpa using a4
      SW:=by rw[List.flatMap_append];simpa[h5l]using a5
      RC:=h3.RC.on hk W5
      checks:=h3.checks.on hk W5
      nb:=h3.nb
      nH:=fun k hk'=>nb k (nx fH a2 l1 k hk')
      nI:=fun k hk'=>nb k (nx fI a3 l2 k hk')
      nA:=fun k hk'=>nb k (nx fA a4 l3 k hk')
      nW:=fun k hk'=>nb k (nx fW a5 l4 k hk')
      lt:=fun i hi=>Nat.lt_of_lt_of_le (h3.lt i hi) hk.size
      bK:=fun x hx=>by
       rw[eh,List.mem_append,List.mem_singleton]at hx;exact hx.elim (h3.bK x) (fun e=>e▸ho)
      name:=fun x hx=>by
       rw[ei,List.mem_append,List.mem_singleton]at hx;exact hx.elim (h3.name x) (fun e=>e▸ij h)
      small:=fun x hx=>by
       rw[List.mem_append,List.mem_singleton]at hx;exact hx.elim (h3.small x) (fun e=>e▸hz'.1) }
 ·have ea:Ar.add r M h now=((-1,1,8),M):=by unfold Ar.add;rw[if_pos hP]
  rw[ea];refine au (Ds b h ho now w (KG false (decide_eq_false hP))) fun w' hb=>?_;exact⟨rfl,hR.keep hb,Kp.of hb⟩
open NN.Rz
section
variable{ρ:Operand->Value}{o:Oper}{w:World}
theorem wT(w:World)(g:Nat):(Instr.fieldAt 60 (ah g) 2).run Tryz.prog w=.ok (.pointer (some ⟨g,100,none⟩)) w:=by kernel_rfl
theorem sJ(w:World)(g:Nat):(Instr.fieldAt 60 (ah g) 3).run Tryz.prog w=.ok (.pointer (some ⟨g,101,none⟩)) w:=by kernel_rfl
theorem u4(w:World)(g j n c:Nat)(hj:j<n):(Instr.indexAt 49 (.slice (aW g) n c) (i_ j)).run Tryz.prog w=.ok (.pointer (some ⟨g,j,none⟩)) w:=by go_simp
end
end An
namespace An
open Go.RowKit Mem Sc
open Ar (aq Ru aB Ok)
open Ar (Lp)
def n8(ab:Nat)(lv:Value):Array Value:=#[ah ab,lv]
def fO(w:World)(F:Nat->Prop)(b:Nat)(r:Ru)(M:List aq)(ls:List Int):Prop:=(∀i,F i->i<w.heap.size)/\∃Fa ab lv,Has w b (n8 ab lv) 119/\gM w Fa ab r M/\w.ownsRow 0 3 1 lv ls.length (ls.map (Value.int .i64))/\Lp M ls/\F b/\(∀i,Fa i->F i)/\(∀i,lv.ownBlock=some i->F i)/\¬Fa b/\∀i,lv.ownBlock=some i->¬Fa i
section
variable{w w':World}{F G:Nat->Prop}{b:Nat}{r:Ru}{M:List aq}{ls:List Int}
theorem fO.on(h:fO w F b r M ls)(k:Kp G w w')(hG:∀i,F i->¬G i):fO w' F b r M ls:=by obtain⟨hl,Fa,ab,lv,h1,h2,h3,h4,h5,h6,h7,h8,h9⟩:=h;exact⟨fun i hi=>Nat.lt_of_lt_of_le (hl i hi) k.size,Fa,ab,lv,k.has h1 (hG b h5),h2.on k fun i hi=>hG i (h6 i hi),ax h3 k fun i hi=>hG i (h7 i hi),h4,h5,h6,h7,h8,h9⟩
theorem fO.below(h:fO w F b r M ls)(hb:Bl w w'):fO w' F b r M ls:=h.on (G:=fun _=>False) (Kp.of hb) fun _ _ hf=>hf
theorem fO.wide(h:fO w F b r M ls)(hF:∀i,F i->G i)(hG:∀i,G i->i<w.heap.size):fO w G b r M ls:=by obtain⟨_,Fa,ab,lv,h1,h2,h3,h4,h5,h6,h7,h8,h9⟩:=h;exact⟨hG,Fa,ab,lv,h1,h2,h3,h4,hF b h5,fun i hi=>hF i (h6 i hi),fun i hi=>hF i (h7 i hi),h8,h9⟩
end
end An
namespace An
open Go.RowKit Mem Sc
open Ar (aq Ru aB Ok)
open NN.Rz
section
variable{ops:Array Oper}{rest:List Oper}{o:Oper}{a:Act}{w:World}{Q:Exit->Act->World->Prop}
theorem GF(hgd:o.guard=none)(x y:Operand)(ho:o.op=.store 3 x y)(q:Addr)(z:Int)(u:Value)(hx:a.eval x=.pointer (some q))(hy:a.eval y=i_ z)(hf:w.frozen? q=false)(hc:w.cell? q=some u)(hk:wpList Tryz.prog ops Q rest (a.put o.dst undef) (w.setCell q (i_ z))):wpList Tryz.prog ops Q (o::rest) a w:=
 wpList_plain hgd fun _ hK=>by
  have hs:(storeVar 3 q (i_ z)).run Tryz.prog w=.ok () (w.setCell q (i_ z)):=by go_simp
  unfold Oper.wp;rw[lY ho hx hy hs];exact hK _ _ hk
end
section
variable{C:World->Prop}{a:Act}{o:Oper}{K:Act->Prop}
end
end An
namespace An
open Go.RowKit Mem Sc
open Ar (aq Ru aB Ok Lp ki iG)
theorem H'(m:Nat)(hm:m<=9223372036854775807):∃k:Int,IntKind.i64.wrap ((m:Int)-1)=k/\bits .and .i64 (m:Int) k=((iG m:Nat):Int):=by
 refine⟨_,rfl,?_⟩;by_cases h0:m=0;subst h0;decide
 ·have e:IntKind.i64.wrap ((m:Int)-1)=((m-1:Nat):Int):=by rw[IntKind.wrap_i64];omega
  rw[e,NN.CV _ _ (by omega) (by omega)];rfl
theorem qX(m:Nat)(hm:m<=9223372036854775807)(w:World):an 126 #[i_ m] w (i_ ((iG m:Nat):Int)):=by
 obtain⟨k,h1,h2⟩:=H' m hm;obtain⟨c,hc⟩:∃c:Int,c=((iG m:Nat):Int):=⟨_,rfl⟩;rw[<-hc]at h2|-;clear hc hm;obtain⟨mi,hm⟩:∃mi:Int,mi=(m:Int):=⟨_,rfl⟩;rw[<-hm]at h1 h2|-;clear hm;have hB:=Below.refl w.heap.size w;go_enter Tryz.func126,Tryz.ntmps126;go_wp2_with fail
 go_ret;exact⟨rfl,hB⟩
theorem CO(h:Int)(g1 g2:Bool)(q k c c2 c3:Int)(h1:decide (h<2)=g1)(hq:Int.tmod h 2=q)(h2:(q==0)=g2)(h3:IntKind.i64.wrap (h-1)=k)(h4:IntKind.i64.wrap (c2+1)=c3)(w:World)(K1:Hid (∀w',g1=false->g2=true->an 126 #[i_ h] w' (i_ c)))(K2:Hid (∀w',g1=false->g2=false->an 126 #[i_ k] w' (i_ c)))(K3:Hid (∀w',g1=false->g2=false->an 126 #[i_ c] w' (i_ c2))):an 85 #[i_ h] w (i_ (if g1 then 0 else if g2 then c else c3)):=by
 have hB:=Below.refl w.heap.size w;cases g1
 ·cases g2
  ·go_enter Tryz.func85,Tryz.ntmps85;go_wp2_with fail
   refine au (K2.out _ (by simp) (by simp)) fun v1 hb=>?_;replace hB:=af hB hb;clear hb;go_wp2_with fail
   refine au (K3.out _ (by simp) (by simp)) fun v2 hb=>?_;replace hB:=af hB hb;clear hb;go_wp2_with fail
   go_ret;exact⟨rfl,hB⟩
  ·go_enter Tryz.func85,Tryz.ntmps85;go_wp2_with fail
   refine au (K1.out _ (by simp) (by simp)) fun v1 hb=>?_;replace hB:=af hB hb;clear hb;go_wp2_with fail
   go_ret;exact⟨rfl,hB⟩
 ·go_enter Tryz.func85,Tryz.ntmps85;go_wp2_with fail
  go_ret;exact⟨rfl,hB⟩
theorem Dv(h:Int)(hh:h<=9223372036854775807)(h0:-9223372036854775808<=h)(w:World):an 85 #[i_ h] w (i_ ((ki h.toNat:Nat):Int)):=by
 by_cases hs:h<2;have:=CO h true (Int.tmod h 2==0) _ _ 0 0 _ (decide_eq_true hs) rfl rfl rfl rfl w (h_ fun _ h=>by cases h) (h_ fun _ h=>by cases h) (h_ fun _ h=>by cases h);rw[Ar.GP (by omega)];exact this
 ·obtain⟨n,rfl⟩:=Int.eq_ofNat_of_zero_le (by omega:0<=h);have hq:Int.tmod (n:Int) 2=((n%2:Nat):Int):=by rw[Int.tmod_eq_emod_of_nonneg (by omega)];omega
  rw[Int.toNat_natCast];by_cases he:n%2=0;have:=CO (n:Int) false true _ _ ((iG n:Nat):Int) 0 _ (decide_eq_false hs) hq (by rw[he];rfl) rfl rfl w (h_ fun w' _ _=>qX n (by omega) w') (h_ fun _ _ h=>by cases h) (h_ fun _ _ h=>by cases h);rw[Ar.JS (by omega) he];exact this
  ·have e1:IntKind.i64.wrap ((n:Int)-1)=((n-1:Nat):Int):=by rw[IntKind.wrap_i64];omega
   have hc1:=Ar.qE (n-1);have hc2:=Ar.qE (iG (n-1));have e2:IntKind.i64.wrap (((iG (iG (n-1)):Nat):Int)+1)=((1+iG (iG (n-1)):Nat):Int):=by rw[IntKind.wrap_i64];omega
   have:=CO (n:Int) false false _ _ ((iG (n-1):Nat):Int) ((iG (iG (n-1)):Nat):Int) _ (decide_eq_false hs) hq (by rw[show n%2=1 by omega];rfl) e1 e2 w (h_ fun _ _ h=>by cases h) (h_ fun w' _ _=>qX (n-1) (by omega) w') (h_ fun w' _ _=>qX (iG (n-1)) (by omega) w');rw[Ar.xS (by omega) (by omega)];exact this
theorem EW(w:World):an 64 #[.pointer none] w (.pointer none):=by
 have hB:=Below.refl w.heap.size w;go_enter Tryz.func64,Tryz.ntmps64;go_wp2_with fail
 go_ret;exact⟨rfl,hB⟩
theorem qC(b ab:Nat)(w:World)(hv:w.cell? ⟨b,0,none⟩=some (ah ab)):an 64 #[ah b] w (ah ab):=by
 have hB:=Below.refl w.heap.size w;go_enter Tryz.func64,Tryz.ntmps64;go_wp2_with fail
 go_ret;exact⟨rfl,hB⟩
def dv(w:World)(tp ap:Value):Prop:=∀w',Bl w w'->an 64 #[tp] w' ap
theorem qB(tp ap:Value)(n:Int)(w:World)(KH:Hid (dv w tp ap))(KL:aV w 92 #[ap] (i_ n)):an 57 #[tp] w (i_ n):=by
 have hB:=Below.refl w.heap.size w;go_enter Tryz.func57,Tryz.ntmps57;go_wp2_with fail
 refine au (KH.out _ hB) fun v1 hb=>?_;replace hB:=af hB hb;clear hb;go_wp2_with fail
 refine au (KL.out _ hB) fun v2 hb=>?_;replace hB:=af hB hb;clear hb;go_wp2_with fail
 go_ret;exact⟨rfl,hB⟩
theorem LF(tp ap:Value)(x y:Int)(g:Bool)(w:World)(KH:Hid (dv w tp ap))(KL:aV w 67 #[ap,i_ x,i_ y] (.bool g)):an 31 #[tp,i_ x,i_ y] w (.bool g):=by
 have hB:=Below.refl w.heap.size w;go_enter Tryz.func31,Tryz.ntmps31;go_wp2_with fail
 refine au (KH.out _ hB) fun v1 hb=>?_;replace hB:=af hB hb;clear hb;go_wp2_with fail
 refine au (KL.out _ hB) fun v2 hb=>?_;replace hB:=af hB hb;clear hb;go_wp2_with fail
 go_ret;exact⟨rfl,hB⟩
theorem pj(tp ap:Value)(k:Int)(e:En)(he:e.ok)(g:Bool)(w:World)(KH:Hid (dv w tp ap))(KL:aV w 65 #[ap,i_ k] (.tuple #[.agg (bB e),.bool g])):an 29 #[tp,i_ k] w (.tuple #[.agg (bB e),.bool g]):=by
 have z0:=gh cU;have z1:=gh he;go_enter Tryz.func29,Tryz.ntmps29;go_upto_region 1 with fail
 generalize hw0:World.alloc _ _=v0;have hB:Bl w v0:=db hw0;have hR:br v0 w.heap.size iI:=by rw[<-hw0];exact gl w
 clear hw0;obtain⟨bR,hbR⟩:∃x,x=w.heap.size:=⟨_,rfl⟩;rw[<-hbR]at hR|-;have SS:Hid (w.heap.size<=bR):=h_ (by omega);clear hbR;go_wp2_with fail
 refine(KH.out _ hB).mono ?_;rintro x v1 ⟨rfl,hb⟩;replace hR:=hR.on hb;replace hB:=af hB hb;clear hb;go_wp2_with fail
 refine(KL.out _ hB).mono ?_;rintro x v2 ⟨rfl,hb⟩;replace hR:=hR.on hb;replace hB:=af hB hb;clear hb;go_wp2_with (with_reducible refine gQ rfl _ _ rfl _ _ e rfl rfl rfl z1 hR z0 ?_)
 refine bodyPost_ret (Ba Tryz.results29 _ _ _ rfl rfl (Has.row hR _) z1) rfl ⟨rfl,below_setRow hB SS.out _⟩
section
variable{w:World}{F:Nat->Prop}{b:Nat}{r:Ru}{M:List aq}{ls:List Int}
theorem dv.nil(w:World):dv w (.pointer none) (.pointer none):=fun w' _=>EW w'
theorem fO.parts(h:fO w F b r M ls):∃Fa ab,dv w (ah b) (ah ab)/\gM w Fa ab r M:=by obtain⟨hl,Fa,ab,lv,h1,h2,h3,h4,h5,h6,h7,h8,h9⟩:=h;exact⟨Fa,ab,fun w' hb=>qC b ab w' ((hb.cell (p:=⟨b,0,none⟩) (Has.lt h1)).trans (Has.cell h1 0)),h2⟩
theorem zk(h:fO w F b r M ls):an 57 #[ah b] w (i_ (M.length:Nat)):=by obtain⟨Fa,ab,k1,k2⟩:=h.parts;exact qB _ _ _ w (h_ k1) (h_ fun w' hb=>CC (k2.below hb))
theorem eI(h:fO w F b r M ls){i:Nat}{e:aq}(he:M[i]?=some e)(k:Int)(hk:k=(i:Nat)):an 29 #[ah b,i_ k] w (.tuple #[.agg (bB (bq r e)),.bool true]):=by obtain⟨Fa,ab,k1,k2⟩:=h.parts;exact pj _ _ _ _ (jm k2 he) _ w (h_ k1) (h_ fun w' hb=>Ly (k2.below hb) he k hk)
theorem qw(h:fO w F b r M ls)(k:Int)(hk:¬(0<=k/\k<(M.length:Nat))):an 29 #[ah b,i_ k] w (.tuple #[.agg (bB lf),.bool false]):=by obtain⟨Fa,ab,k1,k2⟩:=h.parts;exact pj _ _ _ _ dR _ w (h_ k1) (h_ fun w' hb=>B4 (k2.below hb) k hk)
end
theorem Jc(w:World):an 57 #[.pointer none] w (i_ 0):=qB _ _ _ w (h_ (dv.nil w)) (h_ fun w' _=>len_nil w')
theorem tL(k:Int)(w:World):an 29 #[.pointer none,i_ k] w (.tuple #[.agg (bB lf),.bool false]):=pj _ _ _ _ dR _ w (h_ (dv.nil w)) (h_ fun w' _=>CT k w')
end An
namespace An
open Go.RowKit Mem Sc
open Ar (aq Ru aB Ok bV)
theorem Jv{C:World->Prop}{a:Act}{o:Oper}{K:Act->Prop}(x:Operand)(ho:o.op=.load 26 x)(g off:Nat)(hx:a.eval x=.pointer (some ⟨g,off,none⟩))(z:Nat)(hC:∀w',C w'->w'.rangeAt g off (NN.aa z).toList)(hk:K (a.put o.dst (.agg (NN.aa z)))):o.quiet Tryz.prog a C K:=
 ⟨_,fun w' hw'=>by
  unfold Oper.quietAt
  have this:(execOp a.eval o).run Tryz.prog w'=.ok (.value (.agg (NN.aa z))) w':=by
   unfold execOp;simp only[ho,hx,Sem.run_bind,run_loadAt_mid w' g off 26 (NN.aa z).toList _ (hC w' hw') Tryz.underlying26 rfl (NN.cg.trans (by rw[Array.length_toList,NN.fJ])),Result.andThen_ok];rfl
  rw[this];exact⟨rfl,rfl⟩,hk⟩
theorem IT(p:Value)(x y:Int)(w:World)(KX:aV w 103 #[p,i_ x] (.bool false)):an 67 #[p,i_ x,i_ y] w (.bool false):=by
 have hB:=Below.refl w.heap.size w;go_enter Tryz.func67,Tryz.ntmps67;go_wp2_with fail
 refine au (KX.out _ hB) fun v1 hb=>?_;replace hB:=af hB hb;go_wp2_with fail
 go_ret;exact⟨rfl,hB⟩
theorem ON(p:Value)(x y:Int)(w:World)(KX:aV w 103 #[p,i_ x] (.bool true))(KY:aV w 103 #[p,i_ y] (.bool false)):an 67 #[p,i_ x,i_ y] w (.bool true):=by
 have hB:=Below.refl w.heap.size w;go_enter Tryz.func67,Tryz.ntmps67;go_wp2_with fail
 refine au (KX.out _ hB) fun v1 hb=>?_;replace hB:=af hB hb;clear hb;go_wp2_with fail
 refine au (KY.out _ hB) fun v2 hb=>?_;replace hB:=af hB hb;go_wp2_with fail
 go_ret;exact⟨rfl,hB⟩
def qV(a b k m:Nat):Bool:=decide (0<NN.Nm.cmp a b)||(NN.Nm.cmp a b==0&&decide (k<m))
theorem Nn(b g n c k m:Nat)(e d:En)(he:e.ok)(hd:d.ok)(hk:k<n)(hm:m<n)(z:Int)(g1 g2:Bool)(hz:NN.Nm.cmp e.wk d.wk=z)(h1:decide (0<z)=g1)(h2:(z==0)=g2)(hw1:e.wk<NN.Nm.ai)(hw2:d.wk<NN.Nm.ai)(w:World)(hv:w.cell? ⟨b,84,none⟩=some (.slice (aW g) n c))(hr1:w.rangeAt g (k*144) (gj e))(hr2:w.rangeAt g (m*144) (gj d))(KX:aV w 103 #[ah b,i_ k] (.bool true))(KY:aV w 103 #[ah b,i_ m] (.bool true)):an 67 #[ah b,i_ k,i_ m] w (.bool (g1||(g2&&decide (k<m)))):=by
 have hB:=Below.refl w.heap.size w;have KC:x9 104 #[.agg (NN.aa e.wk),.agg (NN.aa d.wk)] (i_ z):=h_ fun w'=>by rw[<-hz];exact NN.compare _ _ hw1 hw2 w'
 have H1:=h_ (AH he hr1);have H2:=h_ (AH hd hr2);have HV:=h_ hv;clear hz hw1 hw2 hr1 hr2 hv;generalize e.wk=ew at*;generalize d.wk=dw at*;go_enter Tryz.func67,Tryz.ntmps67;go_wp2_with fail
 refine au (KX.out _ hB) fun v1 hb=>?_;replace hB:=af hB hb;clear hb;go_wp2_with fail
 refine au (KY.out _ hB) fun v2 hb=>?_;replace hB:=af hB hb;clear hb KX KY;have hv2:=(hB.cell (p:=⟨b,84,none⟩) (block_lt_of_cell HV.out)).trans HV.out;have WQ:∀d os,(Sort.grow (redrawn v2 d) os).cell? ⟨b,84,none⟩=some (.slice (aW g) n c):=cell_regrown hv2;have q1:∀w',(∃r:Regrown,w'=Sort.grow (redrawn v2 r.d) r.os)->w'.rangeAt g (k*144+102) (NN.aa ew).toList:=fun w' hw'=>ix H1.out (hB.trans ((mI w' hw').mono hB.size)) (by rw[Array.length_toList,NN.fJ];decide)
 have q2:∀w',(∃r:Regrown,w'=Sort.grow (redrawn v2 r.d) r.os)->w'.rangeAt g (m*144+102) (NN.aa dw).toList:=fun w' hw'=>ix H2.out (hB.trans ((mI w' hw').mono hB.size)) (by rw[Array.length_toList,NN.fJ];decide)
 clear hv2 H1 H2 HV;go_wp2_with fail
 refine wp_region_quiet_below (by kernel_rfl) (by kernel_rfl) ?_
 repeat(first
  | (go_big_quiet_want;(with_reducible first|refine Jv _ rfl g (k*144+102) rfl ew q1 ?_|refine Jv _ rfl g (m*144+102) rfl dw q2 ?_);(simp only[Act.put,List.setIfInBounds_toArray,List.set_cons_zero,List.set_cons_succ]);go_big_quiet_on)
  | go_big_quiet_step ((go_at_call 104;exact Calls.regrown_of (KC.out _))))
 refine wpQuiet_nil ?_;intro v3 hw';have hb:=mI v3 hw';replace hB:=af hB hb;clear hw' hb WQ q1 q2 KC;by_cases Xu:k<m
 ·cases g1<;>cases g2
  all_goals
   go_wp2_with fail
   go_ret;exact⟨by simp[Xu],hB⟩
 ·cases g1<;>cases g2
  all_goals
   go_wp2_with fail
   go_ret;exact⟨by simp[Xu],hB⟩
def ku(r:Ru)(M:List aq)(x y:Int)(g:Bool):Prop:=(¬bV M x/\g=false)\/(bV M x/\¬bV M y/\g=true)\/∃(n m:Nat)(e d:aq),x=(n:Int)/\y=(m:Int)/\M[n]?=some e/\M[m]?=some d/\g=qV (fe r e.hs) (fe r d.hs) n m
theorem ku.ex(r:Ru)(M:List aq)(x y:Int):∃g,ku r M x y g:=by
 by_cases hx:bV M x
 ·by_cases hy:bV M y;obtain⟨n,e,rfl,he⟩:=hx.is;obtain⟨m,d,rfl,hd⟩:=hy.is;exact⟨_,.inr (.inr ⟨n,m,e,d,rfl,rfl,he,hd,rfl⟩)⟩;exact⟨true,.inr (.inl ⟨hx,hy,rfl⟩)⟩
 exact⟨false,.inl ⟨hx,rfl⟩⟩
theorem Nq{w:World}{F:Nat->Prop}{b:Nat}{r:Ru}{M:List aq}(h:gM w F b r M)(x y:Int)(g:Bool)(hg:ku r M x y g):an 67 #[ah b,i_ x,i_ y] w (.bool g):=by
 have hn:∀k,¬bV M k->aV w 103 #[ah b,i_ k] (.bool false):=fun k hk=>h_ fun w' hb=>kY (h.below hb) k false (by
  rw[Bool.and_eq_false_iff];by_cases h0:0<=k;exact .inr (decide_eq_false fun h1=>hk ⟨h0,h1⟩);exact .inl (decide_eq_false h0))
 have hp:∀k,bV M k->aV w 103 #[ah b,i_ k] (.bool true):=fun k hk=>h_ fun w' hb=>kY (h.below hb) k true (by rw[Bool.and_eq_true];exact⟨decide_eq_true hk.1,decide_eq_true hk.2⟩)
 rcases hg with⟨h1,rfl⟩|⟨h1,h2,rfl⟩|⟨n,m,e,d,rfl,rfl,he,hd,rfl⟩
 exact IT _ x y w (hn x h1);exact ON _ x y w (hp x h1) (hn y h2);have k1:=hp _ (Ar.fu he);have k2:=hp _ (Ar.fu hd);have o1:=jm h he;have o2:=jm h hd;have l1:=(List.getElem?_eq_some_iff.1 he).1;have l2:=(List.getElem?_eq_some_iff.1 hd).1;obtain⟨_,I,p,t,v,mb,L,a1,a2,a3,a4⟩:=h;obtain⟨s1,hs1⟩:=a3.at he;obtain⟨s2,hs2⟩:=a3.at hd;obtain⟨g1,c1,rfl,hg1,hr1⟩:=a1.range hs1;obtain⟨g2,c2,e2,hg2,hr2⟩:=a1.range hs2;cases e2;exact Nn b g1 L.length c1 n m (bq r e) (bq r d) o1 o2 (by rw[a3.length];exact l1) (by rw[a3.length];exact l2) _ _ _ rfl rfl rfl (qQ r e.hs) (qQ r d.hs) w (iv a1.has a1.RG) (ui hr1) (ui hr2) k1 k2
section
variable{w:World}{F:Nat->Prop}{b:Nat}{r:Ru}{M:List aq}{ls:List Int}
theorem Ks(h:fO w F b r M ls)(x y:Int)(g:Bool)(hg:ku r M x y g):an 31 #[ah b,i_ x,i_ y] w (.bool g):=by obtain⟨Fa,ab,k1,k2⟩:=h.parts;exact LF _ _ x y g w (h_ k1) (h_ fun w' hb=>Nq (k2.below hb) x y g hg)
end
theorem O'(x y:Int)(w:World):an 67 #[.pointer none,i_ x,i_ y] w (.bool false):=IT _ x y w (h_ fun w' _=>zi x w')
theorem DR(x y:Int)(w:World):an 31 #[.pointer none,i_ x,i_ y] w (.bool false):=LF _ _ x y false w (h_ (dv.nil w)) (h_ fun w' _=>O' x y w')
open Tp (ko)
def Py(r:Ru)(M:List aq)(i:Nat):Nat:=fe r (M.getD i aB).hs
def Hv(r:Ru)(M:List aq):Nat->Nat->Bool:=Tp.xQ (Py r M)
theorem dJ(r:Ru)(M:List aq):ko (Hv r M):=Tp.ur _
variable{r:Ru}{M:List aq}
theorem kG{i:Nat}{e:aq}(he:M[i]?=some e):Py r M i=fe r e.hs:=by unfold Py;rw[List.getD_eq_getElem?_getD,he];rfl
theorem sY(f:Nat->Nat)(x y:Nat):qV (f x) (f y) x y=Tp.xQ f x y:=by
 unfold qV Tp.xQ NN.Nm.cmp;rcases Nat.lt_trichotomy (f x) (f y)with h|h|h
 ·have h1:¬f y<f x:=by omega
  have h2:¬f x=f y:=by omega
  simp[h,h1,h2]
 simp[h]
 ·have h1:¬f x<f y:=by omega
  simp[h,h1]
theorem ku.place{x y:Nat}(hx:x<M.length)(hy:y<M.length):ku r M (x:Int) (y:Int) (Hv r M x y):=by refine .inr (.inr ⟨x,y,M[x],M[y],rfl,rfl,List.getElem?_eq_getElem hx,List.getElem?_eq_getElem hy,?_⟩);unfold Hv;rw[<-sY,kG (List.getElem?_eq_getElem hx),kG (List.getElem?_eq_getElem hy)]
theorem J7{n:Nat}:∀{l:List Nat},l.Nodup->(∀x∈l,x<n)->l.length<=n:=by intro l hn hl;have:=List.Nodup.length_le_of_subset hn (fun x hx=>List.mem_range.2 (hl x hx));rwa[List.length_range]at this
end An
namespace Mk
open Ar (aq Ru aB Ok Row cY bV)
noncomputable def pb(p:Prop):Bool:=@decide p (Classical.propDecidable p)
variable{p:Prop}
theorem lE:pb p=true↔p:=@decide_eq_true_iff p (Classical.propDecidable p)
theorem zB:pb p=false↔¬p:=@decide_eq_false_iff_not p (Classical.propDecidable p)
noncomputable def bT(M:List aq)(S:St)(z:Int):Bool:=pb (∃k:Nat,cY M (k:Int) z/\da S k=true)
noncomputable def fX(M:List aq)(S:St)(z:Int):Bool:=pb (∃k:Nat,(k:Int)≠z/\cY M (k:Int) z/\da S k=true)
noncomputable def aO(M:List aq)(S:St)(z:Int):Bool:=pb (bV M z/\∀k:Nat,cY M (k:Int) z->S.said k=1/\S.out k=false)
instance Vq(M:List aq)(x:Int):Decidable (bV M x):=inferInstanceAs (Decidable (_/\_))
def sd(M:List aq)(S:St)(x:Int):Nat×Bool:=if bV M x then(S.said x.toNat,S.out x.toNat)else(0,false)
def bad(M:List aq)(S:St)(x:Int):Bool:=(sd M S x).1==2||(sd M S x).2
def bK(M:List aq)(S:St)(x:Int):Bool:=(sd M S x).1==1&&!(sd M S x).2
section
variable{r:Ru}{M:List aq}{S:St}{z:Int}{L xs:List Int}{i:Nat}
theorem zR(h:bV M z):sd M S z=(S.said z.toNat,S.out z.toNat):=if_pos h
theorem qa(h:¬bV M z):sd M S z=(0,false):=if_neg h
theorem IY(h:bV M z):bad M S z=da S z.toNat:=by unfold bad da;rw[zR h];exact Bool.or_comm _ _
theorem Jl:bT M S (i:Int)=true↔nk M S i:=by unfold bT;rw[lE];exact Iff.rfl
theorem lT:bV M (i:Int)↔i<M.length:=by unfold bV;omega
theorem Im:aO M S (i:Int)=true↔Valid M S i:=by unfold aO Valid;rw[lE,lT]
theorem gu(hM:Ok r M)(h:Row M z L){x:Int}(hx:x∈L):bV M x:=by have:=(h.up hM).2 x hx;exact⟨this.1,this.2.2⟩
theorem wX(h:Row M z L){x:Int}:cY M x z↔x∈L:=by constructor;rintro⟨L',h',hx⟩;rw[h.R0 h'];exact hx;intro hx;exact⟨L,h,hx⟩
theorem yr{x:Int}(h:cY M x z):bV M z:=by
 obtain⟨L,hL,hx⟩:=h;rcases hL.inv with⟨_,rfl⟩|⟨j,d,L',rfl,h2,_⟩
 simp at hx;exact lT.2 (List.getElem?_eq_some_iff.1 h2).1
theorem FH(h:¬bV M z):bT M S z=false:=by unfold bT;rw[zB];rintro⟨k,h1,_⟩;exact h (yr h1)
theorem A_(h:¬bV M z):aO M S z=false:=by unfold aO;rw[zB];exact fun hh=>h hh.1
theorem JP(hM:Ok r M)(h:Row M z L):bT M S z=L.any (fun x=>da S x.toNat):=by rw[Bool.eq_iff_iff];unfold bT;rw[lE,List.any_eq_true];constructor;rintro⟨k,h1,h2⟩;exact⟨(k:Int),(wX h).1 h1,by rw[Int.toNat_natCast];exact h2⟩;rintro⟨x,h1,h2⟩;have:=(gu hM h h1).1;exact⟨x.toNat,(wX h).2 (by rw[Int.toNat_of_nonneg this];exact h1),h2⟩
theorem Gz(hM:Ok r M)(hz:bV M z)(h:Row M z L):aO M S z=L.all (fun x=>S.said x.toNat==1&&!S.out x.toNat):=by rw[Bool.eq_iff_iff];unfold aO;rw[lE,List.all_eq_true];constructor;rintro⟨_,h1⟩ x hx;have:=(gu hM h hx).1;have:=h1 x.toNat ((wX h).2 (by rw[Int.toNat_of_nonneg this];exact hx));rw[this.1,this.2];rfl;intro h1;refine⟨hz,fun k hk=>?_⟩;have:=h1 _ ((wX h).1 hk);rw[Int.toNat_natCast,Bool.and_eq_true]at this;exact⟨by simpa using this.1,by simpa using this.2⟩
def Wy(M:List aq)(z:Int)(xs:List Int):Prop:=(∃L,Row M z L/\xs=L.reverse)\/(¬bV M z/\xs=[])
theorem lN(hM:Ok r M)(h:Row M z L):L.length<=M.length:=by
 have h1:=(h.up hM).1
 have h2:(L.map Int.toNat).Nodup:=by
  refine List.pairwise_map.2 (List.Pairwise.imp_of_mem (fun ha hb hab=>?_) h1);have:=(gu hM h ha).1;have:=(gu hM h hb).1;omega
 have:=An.J7 (n:=M.length) h2 fun x hx=>by
  obtain⟨y,hy,rfl⟩:=List.mem_map.1 hx;have:=gu hM h hy;unfold bV at this;omega
 rwa[List.length_map]at this
theorem Wy.ex(hM:Ok r M)(z:Int):∃xs,Wy M z xs/\xs.length<=M.length:=by by_cases h:bV M z;obtain⟨n,rfl⟩:=Int.eq_ofNat_of_zero_le h.1;obtain⟨L,h1,_⟩:=hM.row (List.getElem?_eq_getElem (lT.1 h));exact⟨_,.inl ⟨L,h1,rfl⟩,by rw[List.length_reverse];exact lN hM h1⟩;exact⟨[],.inr ⟨h,rfl⟩,Nat.zero_le _⟩
theorem Wy.no(h:Wy M z xs)(hz:¬bV M z):xs=[]:=by
 rcases h with⟨L,h1,rfl⟩|⟨_,h⟩
 ·rcases h1.inv with⟨_,rfl⟩|⟨j,d,L',rfl,h2,_⟩
  rfl;exact absurd (lT.2 (List.getElem?_eq_some_iff.1 h2).1) hz
 exact h
theorem Wy.yes(h:Wy M (i:Int) xs){e:aq}(he:M[i]?=some e):∃ys,xs=(i:Int)::ys/\Wy M e.up ys:=by
 have hi:=(List.getElem?_eq_some_iff.1 he).1;rcases h with⟨L,h1,rfl⟩|⟨h1,_⟩
 ·rcases h1.inv with⟨h2,_⟩|⟨j,d,L',h2,h3,h4,rfl⟩
  omega
  ·obtain rfl:i=j:=by omega
   rw[he]at h3;cases h3;exact⟨L'.reverse,by simp,.inl ⟨L',h4,rfl⟩⟩
 exact absurd (lT.2 hi) h1
theorem Wy.fails(hM:Ok r M)(h:Wy M z xs):bT M S z=xs.any (bad M S):=by
 rcases h with⟨L,h1,rfl⟩|⟨h1,rfl⟩
 rw[JP hM h1,List.any_reverse];rw[Bool.eq_iff_iff,List.any_eq_true,List.any_eq_true];exact exists_congr fun x=>and_congr_right fun hx=>by rw[IY (gu hM h1 hx)]
 rw[FH h1];rfl
theorem Wy.Vr(hM:Ok r M)(h:Wy M z xs)(hz:bV M z):aO M S z=xs.all (bK M S):=by
 rcases h with⟨L,h1,rfl⟩|⟨h1,rfl⟩
 rw[Gz hM hz h1,List.all_reverse];rw[Bool.eq_iff_iff,List.all_eq_true,List.all_eq_true];exact forall_congr' fun x=>imp_congr_right fun hx=>by unfold bK;rw[zR (gu hM h1 hx)]
 exact absurd hz h1
end
