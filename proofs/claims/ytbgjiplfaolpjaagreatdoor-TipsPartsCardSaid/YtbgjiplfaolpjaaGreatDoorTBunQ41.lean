import Derived.Test.YtbgjiplfaolpjaaGreatDoorTIdm
import Derived.Test.YtbgjiplfaolpjaaGreatDoorTBunQ40
set_option maxRecDepth 100000
set_option maxHeartbeats 4000000
namespace Go.Proofs.YtbgjiplfaolpjaaGreatDoor.An
open Go.RowKit Mem Sc NN.Rg2
open Ar (Ent Ru entZ)
theorem bkfield0 (w:World) (g o:Nat):(Instr.fieldAt 118 (.pointer (some ⟨g,o,none⟩)) 0).run Tryz.prog w = .ok (.pointer (some ⟨g,o,none⟩)) w:=by kernel_rfl
theorem efield4 (w:World) (g o:Nat):(Instr.fieldAt 81 (.pointer (some ⟨g,o,none⟩)) 4).run Tryz.prog w = .ok (.pointer (some ⟨g,o+102,none⟩)) w:=by kernel_rfl
theorem hfield4 (w:World) (g:Nat):(Instr.fieldAt 30 (.pointer (some ⟨g,0,none⟩)) 4).run Tryz.prog w = .ok (.pointer (some ⟨g,66,none⟩)) w:=by kernel_rfl
theorem qjd_ {ρ:Operand->Value} {o:Oper} {w:World} {x:Operand} {g off n:Nat} (ho:o.op = .load 26 x) (hx:ρ x = .pointer (some ⟨g,off,none⟩)) (hg:w.rangeAt g off (NN.numC n).toList):(execOp ρ o).run Tryz.prog w = .ok (.value (.agg (NN.numC n))) w:=by
 have:=ex_mid (P:=Tryz.prog) (ρ:=ρ) (o:=o) (w:=w) 26 ho hx (cs:=(NN.numC n).toList) Tryz.underlying26 rfl (NN.infoNum.trans (by simp[NN.qbe_])) hg
 rwa [Array.toArray_toList] at this
def SumS (B:Nat) (w w':World):Prop:=∀ b cs,B<=b->NN.Has w b cs 26->(cs.size ≠ 4->NN.Has w' b cs 26)/\(cs.size=4->∃ cs',NN.Has w' b cs' 26/\cs'.size=4)
theorem SumS.refl (B:Nat) (w:World):SumS B w w:=fun _ cs _ h=>⟨fun _=>h,fun h4=>⟨cs,h,h4⟩⟩
theorem SumS.below {B:Nat} {w w':World} (hb:Below w.heap.size w w'):SumS B w w':=fun _ cs _ h=>⟨fun _=>h.on hb,fun h4=>⟨cs,h.on hb,h4⟩⟩
theorem SumS.row {B g z:Nat} {cs:Array Value} {w:World} (hg:NN.Has w g cs 26) (hs:cs.size=4):SumS B w (w.setRow g (NN.numC z)):=fun b cs' _ h=>by
 by_cases e:b=g
 ·subst e
  have e2:cs'=cs:=by
   have h1:=NN.Has.out h
   have h2:=NN.Has.out hg
   rw[h1] at h2
   injection h2 with h2
   injection h2
  subst e2
  exact ⟨fun h4=>absurd hs h4,fun _=>⟨_,hg.row _,rfl⟩⟩
 ·exact ⟨fun _=>h.otherRow _ _ e,fun h4=>⟨cs',h.otherRow _ _ e,h4⟩⟩
def SmR (B b bH g j n c wk ob z:Nat) (bits:Int):Nat->Value->World->Prop
 | 0,u,_=>u = .pointer (some ⟨b,0,none⟩)
 | 1,u,_=>u = .pointer (some ⟨b,0,none⟩)
 | 2,u,_=>u = .pointer (some ⟨b,84,none⟩)
 | 3,u,_=>u = .slice (some ⟨g,0,none⟩) n c
 | 4,u,_=>u = .int .i64 (j:Int)
 | 5,u,_=>u = .pointer (some ⟨g,j*144,none⟩)
 | 6,u,_=>u = .pointer (some ⟨g,j*144,none⟩)
 | 7,u,_=>u = .pointer (some ⟨g,j*144+102,none⟩)
 | 8,u,_=>u = .agg (NN.numC wk)
 | 9,u,_=>u = .pointer (some ⟨bH,66,none⟩)
 | 10,u,_=>u = .int .i64 bits
 | 11,u,_=>u = .agg (NN.numC ob)
 | 12,u,w=>∃ b',B<=b'/\u = .slice (some ⟨b',0,none⟩) 2 2/\NN.Has w b' (NN.numRow [wk,ob]) 26
 | 13,u,_=>u = .agg (NN.numC z)
 | 14,u,w=>∃ b' cs,B<=b'/\u = .pointer (some ⟨b',0,none⟩)/\NN.Has w b' cs 26/\cs.size=4
 | _,_,_=>b=b
theorem qje_ (x y:Nat):(NN.numRow [x,y]).size=8:=by simp[NN.numRow,NN.qbe_]
theorem qtj_ {B b bH g j n c wk ob z:Nat} {bits:Int}:∀ (i:Nat) (u:Value) (w w':World),SumS B w w'->SmR B b bH g j n c wk ob z bits i u w->SmR B b bH g j n c wk ob z bits i u w'
 | 0,_,_,_,_,h|1,_,_,_,_,h|2,_,_,_,_,h|3,_,_,_,_,h|4,_,_,_,_,h|5,_,_,_,_,h|6,_,_,_,_,h|7,_,_,_,_,h|8,_,_,_,_,h|9,_,_,_,_,h|10,_,_,_,_,h|11,_,_,_,_,h|13,_,_,_,_,h=>h
 | 12,_,_,_,hs,⟨b',h1,h2,h3⟩=>⟨b',h1,h2,(hs b' _ h1 h3).1 (by rw[qje_];decide)⟩
 | 14,_,_,_,hs,⟨b',cs,h1,h2,h3,h4⟩=>by
  obtain ⟨cs',h5,h6⟩:=(hs b' cs h1 h3).2 h4
  exact ⟨b',cs',h1,h2,h5,h6⟩
 | _+15,_,_,_,_,_=>rfl
def PtR (B b n:Nat) (p:NN.Pr) (sp:Sp) (h:Hd) (e:En) (q:Ps):Nat->Value->World->Prop
 | 0,u,_=>u = .pointer (some ⟨b,0,none⟩)
 | 1,u,_=>u = .agg (enA e)
 | 2,u,_=>u = .pointer (some ⟨b,0,none⟩)
 | 3,u,_=>u = .pointer (some ⟨b,0,none⟩)
 | 4,u,_=>u = .pointer (some ⟨b,0,none⟩)
 | 5,u,_=>u = .agg (NN.prA p)
 | 6,u,_=>u = .agg (spA sp)
 | 7,u,_=>u = .agg (hdA h)
 | 8,u,w=>∃ s:Sp,u = .agg (spA s)/\s.ok/\Sup (fun i=>B<=i) (fun w=>SpIs w 0 s q) w
 | 9,u,_=>u = .int .i64 (n:Int)
 | 10,u,_=>u = .int .i64 (n:Int)
 | 11,u,_=>u = .int .i64 0
 | 12,u,_=>u = .int .i64 0
 | _,_,_=>b=b
theorem qtk_ {B b n:Nat} {p:NN.Pr} {sp:Sp} {h:Hd} {e:En} {q:Ps} {G:Nat->Prop} (hG:∀ i,G i->i<B):∀ (i:Nat) (u:Value) (w w':World),Kp G w w'->PtR B b n p sp h e q i u w->PtR B b n p sp h e q i u w'
 | 0,_,_,_,_,h|1,_,_,_,_,h|2,_,_,_,_,h|3,_,_,_,_,h|4,_,_,_,_,h|5,_,_,_,_,h|6,_,_,_,_,h|7,_,_,_,_,h|9,_,_,_,_,h|10,_,_,_,_,h|11,_,_,_,_,h|12,_,_,_,_,h=>h
 | 8,_,_,_,hk,⟨s,h1,h2,h3⟩=>⟨s,h1,h2,h3.on hk fun i hi hg=>absurd (hG i hg) (by omega)⟩
 | _+13,_,_,_,_,_=>rfl
def PtPost (B:Nat) (I:Nat->Prop) (b:Nat) (p:NN.Pr) (t:Tl) (gs:List Gt) (cs:List Ck) (room:Nat) (v:Value) (mb:Nat) (L:List Bk) (e:En) (q:Ps) (w:World):Prop:=∃ I' v' s,Ara w I' b p t gs cs room v' mb (L ++ [⟨e,s,q⟩])/\∀ i,Mine I' b v' mb i->Mine I b v mb i\/B<=i
theorem qyu_ {w:World} {k:Nat} {e:En} (h:EnAt w k e):w.rangeAt k 0 (enC e):=by
 have:=qbm_ (A:=[]) (cs:=enC e) (C:=[]) (o:=0) (w:=w) (b:=k) (t:=81) (by rw[List.append_nil];exact h) rfl
 exact this
theorem qyv_ {w:World} {k:Nat} {s:Sp} (h:SpAt w k s):w.rangeAt k 0 (spC s):=by
 have:=qbm_ (A:=[]) (cs:=spC s) (C:=[]) (o:=0) (w:=w) (b:=k) (t:=110) (by rw[List.append_nil];exact h) rfl
 exact this
theorem qyw_ (b:Nat) (h:Hd) (ho:h.ok) (now:Int) (w:World) (KG:HK_ w 58 #[.agg (hdA h)] (.bool true)) (id:List UInt8) (i32:id.length=32) (KI:HK_ w 59 #[.agg (hdA h)] (.agg (bytesV id))) (KF:HK_ w 60 #[.pointer (some ⟨b,0,none⟩),.agg (bytesV id)] (.int .i64 (-1))) {I:Nat->Prop} {p:NN.Pr} {t:Tl} {gs:List Gt} {cs:List Ck} {room g n c mb:Nat} {L:List Bk} (HA:Hid (∀w',Below w.heap.size w w'->Ara w' I b p t gs cs room (.slice (some ⟨g,0,none⟩) n c) mb L)) (x:Bk) (xe:x.e.ok) (xs:x.s.ok) (j:Nat) (hj:j<n) (HR:Hid (∀w',Below w.heap.size w w'->w'.rangeAt g (j*144) (bkC x.e x.s))) (KP:HK_ w 60 #[.pointer (some ⟨b,0,none⟩),.agg (bytesV h.prev)] (.int .i64 (j:Int))) (KC:HK_ w 61 #[.agg (NN.prA p),.agg (spA x.s),.agg (hdA h),.int .i64 now] (.int .i64 0)) (hroom:room<=n) :
  Ca_ 29 #[.pointer (some ⟨b,0,none⟩),.agg (hdA h),.int .i64 now] w (.tuple #[.int .i64 (-1),.int .i64 0,.int .i64 6]):=by
 have za:=qah_ ho
 go_enter Tryz.func29,Tryz.ntmps29
 go_upto_region 1 with fail
 generalize hw0:World.alloc _ _=v0
 have hB:Below w.heap.size w v0:=bl_ hw0
 have hH:HdAt v0 w.heap.size h:=by rw[<-hw0];exact Has.new _ _
 clear hw0
 obtain ⟨bH,hbH⟩:∃ x,x=w.heap.size:=⟨_,rfl⟩
 rw[<-hbH] at hH |-
 have HBH:Hid (bH=w.heap.size):=h_ hbH
 clear hbH
 go_wp2_with (first|fail|(with_reducible refine qav_ rfl _ rfl _ rfl hH za ?_))
 refine (KG.out _ hB).mono ?_
 rintro e v1 ⟨rfl,hb⟩
 replace hH:=hH.on hb
 replace hB:=tb_ hB hb
 clear hb
 go_wp2_with (first|fail|(with_reducible refine qav_ rfl _ rfl _ rfl hH za ?_))
 refine (KI.out _ hB).mono ?_
 rintro e v2 ⟨rfl,hb⟩
 replace hH:=hH.on hb
 replace hB:=tb_ hB hb
 clear hb
 have s1:(bytesV id).size=32:=by rw[qn_];exact i32
 have o1:=qaf_ id
 have HW2:Hid (w.heap.size<=v2.heap.size):=h_ hB.size
 go_upto_region 6 with (with_reducible refine qbz_ rfl _ _ rfl _ (bytesV id) (bytesV id) rfl rfl rfl s1 o1 h0 (h0_new v2 _) rfl ?_)
 generalize hw4:World.setRow _ _ _=v3
 have hb2:Below v2.heap.size v2 v3:=bw_ hw4
 have hI:Has v3 v2.heap.size (bytesV id) 28:=by rw[<-hw4];exact Has.row (h0_new v2 _) _
 replace hH:=hH.on hb2
 replace hB:=tb_ hB hb2
 clear hw4 hb2 o1
 obtain ⟨bI,hbI⟩:∃ b,b=v2.heap.size:=⟨_,rfl⟩
 rw[<-hbI] at hI HW2 |-
 clear hbI
 go_wp2_with (first|fail|(with_reducible refine qfi_ rfl _ rfl _ rfl _ hI s1 ?_))
 refine (KF.out _ hB).mono ?_
 rintro e v4 ⟨rfl,hb⟩
 replace hH:=hH.on hb
 replace hI:=qd_ hb hI (Has.lt hI)
 replace hB:=tb_ hB hb
 clear hb
 have rp:=hH.prev
 have s2:=qf_ ho.1
 go_wp2_with (first|fail|(with_reducible refine qy_ rfl _ rfl bH 1 rfl h.prev rp s2 ?_))
 refine (KP.out _ hB).mono ?_
 rintro e v5 ⟨rfl,hb⟩
 replace hH:=hH.on hb
 replace hI:=qd_ hb hI (Has.lt hI)
 replace hB:=tb_ hB hb
 clear hb
 clear rp
 have hA5:=HA.out _ hB
 have c84:=ar84 hA5.has hA5.pok
 have rs:=qix_ xe (HR.out _ hB)
 have z3:=qbg_ xs
 have z4:=qba_ xs
 have z0:=qba_ spZ_ok
 have hp:=hA5.pok
 clear hA5
 have HW5:Hid (w.heap.size<=v5.heap.size):=h_ hB.size
 go_upto_region 13 with (first
  | (with_reducible refine qdo_ rfl _ rfl g (j*144+106) rfl x.s rs z3 ?_)
  | (with_reducible refine qeq_ rfl _ _ rfl _ _ x.s rfl rfl rfl z4 (qep_ v5) z0 ?_))
 generalize hw4:World.setRow _ _ _=v6
 have hb2:Below v5.heap.size v5 v6:=bw_ hw4
 have hS:SpAt v6 v5.heap.size x.s:=by rw[<-hw4];exact Has.row (qep_ v5) _
 replace hH:=hH.on hb2
 replace hI:=qd_ hb2 hI (Has.lt hI)
 replace hB:=tb_ hB hb2
 clear hw4 hb2 c84 rs
 obtain ⟨bS,hbS⟩:∃ b,b=v5.heap.size:=⟨_,rfl⟩
 rw[<-hbS] at hS HW5 |-
 clear hbS
 simp only[Act.put]
 have hz:=qax_ hp
 have ra:=qbd_ (ar_pr (HA.out _ hB).has) (by rw[hz];omega)
 have qS:=hS.cls
 have qH:=qbd_ hH.range (qgz_ h)
 have sh:=qj_ ho
 have HBr:∀ d os,Below w.heap.size w (Sort.grow (redrawn v6 d) os):=fun d os=>hB.trans ((below_regrown v6 d os).mono hB.size)
 refine wp_region_quiet_below (by kernel_rfl) (by kernel_rfl) ?_
 repeat (first
  | (go_big_quiet_want;(with_reducible first|refine qge_ 32 _ rfl b 0 rfl (NN.prC p) _ Tryz.underlying32 rfl (NN.prinfo.trans (by rw[hz])) ra ?_|refine qcf_ _ rfl bS rfl z4 qS ?_|refine qbk_ _ rfl bH 0 rfl h sh qH ?_);(simp only[Act.put,List.setIfInBounds_toArray,List.set_cons_zero,List.set_cons_succ]);go_big_quiet_on)
  | go_big_quiet_step ((go_at_call 61;exact Calls.regrown_of (KC.out _ (HBr _ _)))))
 refine wpQuiet_nil ?_
 intro v7 hw'
 have hb:=qk_ v7 hw'
 replace hH:=hH.on hb
 replace hI:=qd_ hb hI (Has.lt hI)
 replace hS:=hS.on hb
 replace hB:=tb_ hB hb
 clear hw' hb ra qS qH sh HBr
 go_upto_region 16 with fail
 have hA7:=HA.out _ hB
 have q84:∀ d os,(Sort.grow (redrawn v7 d) os).cell? ⟨b,84,none⟩=some (.slice (some ⟨g,0,none⟩) n c):=cell_regrown (ar84 hA7.has hp)
 have q83:∀ d os,(Sort.grow (redrawn v7 d) os).cell? ⟨b,83,none⟩=some (.int .i64 (room:Int)):=cell_regrown (ar83 hA7.has hp)
 clear hA7
 refine wp_region_quiet_below (by kernel_rfl) (by kernel_rfl) ?_
 repeat (first
  | go_big_quiet_step (fail))
 refine wpQuiet_nil ?_
 intro v8 hw'
 have hb:=qk_ v8 hw'
 replace hH:=hH.on hb
 replace hI:=qd_ hb hI (Has.lt hI)
 replace hS:=hS.on hb
 replace hB:=tb_ hB hb
 clear hw' hb q84 q83
 go_wp2_with fail
 go_ret3
 exact ⟨rfl,hB⟩
theorem add_new (b:Nat) (h:Hd) (ho:h.ok) (now:Int) (w:World) (KG:HK_ w 58 #[.agg (hdA h)] (.bool true)) (id:List UInt8) (i32:id.length=32) (KI:HK_ w 59 #[.agg (hdA h)] (.agg (bytesV id))) (KF:HK_ w 60 #[.pointer (some ⟨b,0,none⟩),.agg (bytesV id)] (.int .i64 (-1))) {I:Nat->Prop} {p:NN.Pr} {t:Tl} {gs:List Gt} {cs:List Ck} {room g n c mb:Nat} {L:List Bk} (HA:Hid (∀w',Below w.heap.size w w'->Ara w' I b p t gs cs room (.slice (some ⟨g,0,none⟩) n c) mb L)) (x:Bk) (xe:x.e.ok) (xs:x.s.ok) (j:Nat) (hj:j<n) (HR:Hid (∀w',Below w.heap.size w w'->w'.rangeAt g (j*144) (bkC x.e x.s))) (KP:HK_ w 60 #[.pointer (some ⟨b,0,none⟩),.agg (bytesV h.prev)] (.int .i64 (j:Int))) (KC:HK_ w 61 #[.agg (NN.prA p),.agg (spA x.s),.agg (hdA h),.int .i64 now] (.int .i64 0)) (hroom:¬room<=n) (ob z:Nat) (KO:HG_ 63 #[.int .i64 h.bits] (.agg (NN.numC ob))) (KS:Hid (∀b' w',NN.Has w' b' (NN.numRow [x.e.wk,ob]) 26->Calls Tryz.prog 62 #[.slice (some ⟨b',0,none⟩) 2 2] w' fun e w''=>e = .returned (.agg (NN.numC z))/\Below w'.heap.size w' w'')) (q9:Ps) (q32:q9.prev.length=32) (KB:Hid (∀w',Below w.heap.size w w'->Calls Tryz.prog 64 #[.agg (NN.prA p),.agg (spA x.s),.agg (hdA h)] w' fun r w''=>∃ s,r = .returned (.agg (spA s))/\SpIs w'' w'.heap.size s q9/\Below w'.heap.size w' w'')) (ht:Int) (e4:x.s.x.h=ht) (hn:n=L.length) (hn9:L.length<=900) (hf:(L.map (·.e.id)).findIdx? (· == id)=none) :
  Calls Tryz.prog 29 #[.pointer (some ⟨b,0,none⟩),.agg (hdA h),.int .i64 now] w fun r w'=>∃ I' v' s,r = .returned (.tuple #[.int .i64 (n:Int),.int .i64 0,.int .i64 0])/\Ara w' I' b p t gs cs room v' mb (L ++ [⟨⟨h,id,(j:Int),ht,z⟩,s,q9⟩])/\Kp (fun i=>i=b\/i=mb\/(Value.slice (some ⟨g,0,none⟩) n c).ownBlock=some i) w w'/\(∀i,Mine I' b v' mb i->Mine I b (.slice (some ⟨g,0,none⟩) n c) mb i\/w.heap.size<=i):=by
 have HE:=h_ (show n=L.length/\L.length<=900/\(L.map (·.e.id)).findIdx? (· == id)=none from ⟨hn,hn9,hf⟩)
 have E4:=h_ e4
 clear e4 hn hn9 hf
 have za:=qah_ ho
 go_enter Tryz.func29,Tryz.ntmps29
 go_upto_region 1 with fail
 generalize hw0:World.alloc _ _=v0
 have hB:Below w.heap.size w v0:=bl_ hw0
 have hH:HdAt v0 w.heap.size h:=by rw[<-hw0];exact Has.new _ _
 clear hw0
 obtain ⟨bH,hbH⟩:∃ x,x=w.heap.size:=⟨_,rfl⟩
 rw[<-hbH] at hH |-
 have HBH:Hid (bH=w.heap.size):=h_ hbH
 clear hbH
 go_wp2_with (first|fail|(with_reducible refine qav_ rfl _ rfl _ rfl hH za ?_))
 refine (KG.out _ hB).mono ?_
 rintro e v1 ⟨rfl,hb⟩
 replace hH:=hH.on hb
 replace hB:=tb_ hB hb
 clear hb
 go_wp2_with (first|fail|(with_reducible refine qav_ rfl _ rfl _ rfl hH za ?_))
 refine (KI.out _ hB).mono ?_
 rintro e v2 ⟨rfl,hb⟩
 replace hH:=hH.on hb
 replace hB:=tb_ hB hb
 clear hb
 have s1:(bytesV id).size=32:=by rw[qn_];exact i32
 have o1:=qaf_ id
 have HW2:Hid (w.heap.size<=v2.heap.size):=h_ hB.size
 go_upto_region 6 with (with_reducible refine qbz_ rfl _ _ rfl _ (bytesV id) (bytesV id) rfl rfl rfl s1 o1 h0 (h0_new v2 _) rfl ?_)
 generalize hw4:World.setRow _ _ _=v3
 have hb2:Below v2.heap.size v2 v3:=bw_ hw4
 have hI:Has v3 v2.heap.size (bytesV id) 28:=by rw[<-hw4];exact Has.row (h0_new v2 _) _
 replace hH:=hH.on hb2
 replace hB:=tb_ hB hb2
 clear hw4 hb2 o1
 obtain ⟨bI,hbI⟩:∃ b,b=v2.heap.size:=⟨_,rfl⟩
 rw[<-hbI] at hI HW2 |-
 clear hbI
 go_wp2_with (first|fail|(with_reducible refine qfi_ rfl _ rfl _ rfl _ hI s1 ?_))
 refine (KF.out _ hB).mono ?_
 rintro e v4 ⟨rfl,hb⟩
 replace hH:=hH.on hb
 replace hI:=qd_ hb hI (Has.lt hI)
 replace hB:=tb_ hB hb
 clear hb
 have rp:=hH.prev
 have s2:=qf_ ho.1
 go_wp2_with (first|fail|(with_reducible refine qy_ rfl _ rfl bH 1 rfl h.prev rp s2 ?_))
 refine (KP.out _ hB).mono ?_
 rintro e v5 ⟨rfl,hb⟩
 replace hH:=hH.on hb
 replace hI:=qd_ hb hI (Has.lt hI)
 replace hB:=tb_ hB hb
 clear hb
 clear rp
 have hA5:=HA.out _ hB
 have c84:=ar84 hA5.has hA5.pok
 have rs:=qix_ xe (HR.out _ hB)
 have z3:=qbg_ xs
 have z4:=qba_ xs
 have z0:=qba_ spZ_ok
 have hp:=hA5.pok
 clear hA5
 have HW5:Hid (w.heap.size<=v5.heap.size):=h_ hB.size
 go_upto_region 13 with (first
  | (with_reducible refine qdo_ rfl _ rfl g (j*144+106) rfl x.s rs z3 ?_)
  | (with_reducible refine qeq_ rfl _ _ rfl _ _ x.s rfl rfl rfl z4 (qep_ v5) z0 ?_))
 generalize hw4:World.setRow _ _ _=v6
 have hb2:Below v5.heap.size v5 v6:=bw_ hw4
 have hS:SpAt v6 v5.heap.size x.s:=by rw[<-hw4];exact Has.row (qep_ v5) _
 replace hH:=hH.on hb2
 replace hI:=qd_ hb2 hI (Has.lt hI)
 replace hB:=tb_ hB hb2
 clear hw4 hb2 c84 rs
 obtain ⟨bS,hbS⟩:∃ b,b=v5.heap.size:=⟨_,rfl⟩
 rw[<-hbS] at hS HW5 |-
 clear hbS
 simp only[Act.put]
 have hz:=qax_ hp
 have ra:=qbd_ (ar_pr (HA.out _ hB).has) (by rw[hz];omega)
 have qS:=hS.cls
 have qH:=qbd_ hH.range (qgz_ h)
 have sh:=qj_ ho
 have HBr:∀ d os,Below w.heap.size w (Sort.grow (redrawn v6 d) os):=fun d os=>hB.trans ((below_regrown v6 d os).mono hB.size)
 refine wp_region_quiet_below (by kernel_rfl) (by kernel_rfl) ?_
 repeat (first
  | (go_big_quiet_want;(with_reducible first|refine qge_ 32 _ rfl b 0 rfl (NN.prC p) _ Tryz.underlying32 rfl (NN.prinfo.trans (by rw[hz])) ra ?_|refine qcf_ _ rfl bS rfl z4 qS ?_|refine qbk_ _ rfl bH 0 rfl h sh qH ?_);(simp only[Act.put,List.setIfInBounds_toArray,List.set_cons_zero,List.set_cons_succ]);go_big_quiet_on)
  | go_big_quiet_step ((go_at_call 61;exact Calls.regrown_of (KC.out _ (HBr _ _)))))
 refine wpQuiet_nil ?_
 intro v7 hw'
 have hb:=qk_ v7 hw'
 replace hH:=hH.on hb
 replace hI:=qd_ hb hI (Has.lt hI)
 replace hS:=hS.on hb
 replace hB:=tb_ hB hb
 clear hw' hb ra qS qH sh HBr
 go_upto_region 16 with fail
 have hA7:=HA.out _ hB
 have q84:∀ d os,(Sort.grow (redrawn v7 d) os).cell? ⟨b,84,none⟩=some (.slice (some ⟨g,0,none⟩) n c):=cell_regrown (ar84 hA7.has hp)
 have q83:∀ d os,(Sort.grow (redrawn v7 d) os).cell? ⟨b,83,none⟩=some (.int .i64 (room:Int)):=cell_regrown (ar83 hA7.has hp)
 clear hA7
 refine wp_region_quiet_below (by kernel_rfl) (by kernel_rfl) ?_
 repeat (first
  | go_big_quiet_step (fail))
 refine wpQuiet_nil ?_
 intro v8 hw'
 have hb:=qk_ v8 hw'
 replace hH:=hH.on hb
 replace hI:=qd_ hb hI (Has.lt hI)
 replace hS:=hS.on hb
 replace hB:=tb_ hB hb
 clear hw' hb q84 q83
 go_upto_region 18 with fail
 have HBv8:=h_ hB
 refine qh_ (by kernel_rfl) (fun w'=>Below v8.heap.size v8 w') (fun i v' w'=>SmR v8.heap.size b bH g j n c x.e.wk ob z h.bits i v' w') (fun l a w'=>PhA 15 14 (fun w'=>v8.heap.size<=w'.heap.size) (fun u w'=>∃ b',u = .pointer (some ⟨b',0,none⟩)/\v8.heap.size<=b'/\NN.Has w' b' (NN.numC z) 26) l a w') (SumS v8.heap.size) (fun _ _=>SumS.refl _ _) (fun i v w w' _ hs h=>qtj_ i v w w' hs h) (by kernel_rfl) (Below.refl _ _).drew ?_ ?_ ?_
 ·exact fun l hl=>PhA.zero hl (Below.refl v8.heap.size v8).drew.size
 ·intro i o listed a wx ho' hnl hdep hinv
  have hC:=hinv.c
  have hI:=hinv.i
  have hi:i<16:=(Array.getElem?_eq_some_iff.1 ho').1
  have hHx:HdAt wx bH h:=qd_ hC hH hH.lt
  have hbits:=hHx.bits ho
  have hBx:=tb_ HBv8.out hC
  have c84:=ar84 (HA.out _ hBx).has hp
  have rw:=qiy_ xe (qgj_ (HR.out _ hBx))
  obtain rfl|rfl|rfl|rfl|rfl|rfl|rfl|rfl|rfl|rfl|rfl|rfl|rfl|rfl|rfl|rfl:i=0\/i=1\/i=2\/i=3\/i=4\/i=5\/i=6\/i=7\/i=8\/i=9\/i=10\/i=11\/i=12\/i=13\/i=14\/i=15:=by omega
  all_goals obtain rfl:=Option.some.inj ho'
  ·have hsz:=hz_ hinv 0
   exact dV_ (S:=SumS v8.heap.size) (fun _ _=>SumS.refl _ _) 0 hinv (qa_ rfl) (NN.qu_ rfl) (hinv.old' 0) (hI.keep hsz (by decide) _ _ (by decide))
  ·have hsz:=hz_ hinv 1
   exact dV_ (S:=SumS v8.heap.size) (fun _ _=>SumS.refl _ _) 1 hinv (qa_ rfl) (ex_nil rfl (gd_ hinv hdep 0 66)) rfl (hI.keep hsz (by decide) _ _ (by decide))
  ·have hsz:=hz_ hinv 2
   exact dV_ (S:=SumS v8.heap.size) (fun _ _=>SumS.refl _ _) 2 hinv (qa_ rfl) (qau_ rfl (gd_ hinv hdep 1 67) (afield2 wx b)) rfl (hI.keep hsz (by decide) _ _ (by decide))
  ·have hsz:=hz_ hinv 3
   exact dV_ (S:=SumS v8.heap.size) (fun _ _=>SumS.refl _ _) 3 hinv (qa_ rfl) (qfq_ rfl (gd_ hinv hdep 2 68) c84) rfl (hI.keep hsz (by decide) _ _ (by decide))
  ·have hsz:=hz_ hinv 4
   exact dV_ (S:=SumS v8.heap.size) (fun _ _=>SumS.refl _ _) 4 hinv (qa_ rfl) (NN.qu_ rfl) (hinv.old' 11) (hI.keep hsz (by decide) _ _ (by decide))
  ·have hsz:=hz_ hinv 5
   exact dV_ (S:=SumS v8.heap.size) (fun _ _=>SumS.refl _ _) 5 hinv (qa_ rfl) (ex_idx rfl (gd_ hinv hdep 3 69) (gd_ hinv hdep 4 70) (bk_idx wx g j n c hj)) rfl (hI.keep hsz (by decide) _ _ (by decide))
  ·have hsz:=hz_ hinv 6
   exact dV_ (S:=SumS v8.heap.size) (fun _ _=>SumS.refl _ _) 6 hinv (qa_ rfl) (qgk_ rfl (gd_ hinv hdep 5 71) (bkfield0 wx g (j*144))) rfl (hI.keep hsz (by decide) _ _ (by decide))
  ·have hsz:=hz_ hinv 7
   exact dV_ (S:=SumS v8.heap.size) (fun _ _=>SumS.refl _ _) 7 hinv (qa_ rfl) (qgk_ rfl (gd_ hinv hdep 6 72) (efield4 wx g (j*144))) rfl (hI.keep hsz (by decide) _ _ (by decide))
  ·have hsz:=hz_ hinv 8
   exact dV_ (S:=SumS v8.heap.size) (fun _ _=>SumS.refl _ _) 8 hinv (qa_ rfl) (qjd_ rfl (gd_ hinv hdep 7 73) rw) rfl (hI.keep hsz (by decide) _ _ (by decide))
  ·have hsz:=hz_ hinv 9
   exact dV_ (S:=SumS v8.heap.size) (fun _ _=>SumS.refl _ _) 9 hinv (qa_ rfl) (qau_ rfl (hinv.old' 4) (hfield4 wx bH)) rfl (hI.keep hsz (by decide) _ _ (by decide))
  ·have hsz:=hz_ hinv 10
   exact dV_ (S:=SumS v8.heap.size) (fun _ _=>SumS.refl _ _) 10 hinv (qa_ rfl) (NN.qbq_ rfl (gd_ hinv hdep 9 75) hbits) rfl (hI.keep hsz (by decide) _ _ (by decide))
  ·have hsz:=hz_ hinv 11
   have hnK:=ah_ hinv hnl 15
   have hpre:=hI.pre hnK hsz (by decide)
   exact dC_ (S:=SumS v8.heap.size) 11 hinv (qa_ rfl) (f:=63) (args:=#[a.eval (.tmp 76)]) (by kernel_rfl) (by rw[show a.eval (.tmp 76)=_ from (gd_ hinv hdep 10 76)];  exact KO.out wx) (fun w' hb=>⟨tb_ hC hb,SumS.below hb,rfl,PhA.made hnK (Nat.le_trans hpre hb.size)⟩)
  ·have hsz:=hz_ hinv 12
   have hnK:=ah_ hinv hnl 15
   have hpre:=hI.pre hnK hsz (by decide)
   have hb:Below wx.heap.size wx (wx.alloc (.cells (NN.numRow [x.e.wk,ob]) 26)):=(Below.refl _ _).alloc (Nat.le_refl _) _
   exact dM_ (S:=SumS v8.heap.size) 12 hinv (qa_ rfl) (NN.qki_ rfl (gd_ hinv hdep 8 74) (gd_ hinv hdep 11 77)) (tb_ hC hb) (SumS.below hb) ⟨wx.heap.size,hC.size,rfl,NN.Has.new _ _⟩ (PhA.made hnK (Nat.le_trans hpre hb.size))
  ·have hsz:=hz_ hinv 13
   have hnK:=ah_ hinv hnl 15
   have hpre:=hI.pre hnK hsz (by decide)
   obtain ⟨b',hb1,e78,hb3⟩:=(gd_ hinv hdep 12 78)
   exact dC_ (S:=SumS v8.heap.size) 13 hinv (qa_ rfl) (f:=62) (args:=#[a.eval (.tmp 78)]) (by kernel_rfl) (by rw[e78];exact KS.out b' wx hb3) (fun w' hb=>⟨tb_ hC hb,SumS.below hb,rfl,PhA.made hnK (Nat.le_trans hpre hb.size)⟩)
  ·have hsz:=hz_ hinv 14
   have hnK:=ah_ hinv hnl 15
   have hpre:=hI.pre hnK hsz (by decide)
   have hb:Below wx.heap.size wx (wx.alloc (.cells (NN.numC 0) 26)):=(Below.refl _ _).alloc (Nat.le_refl _) _
   exact dM_ (S:=SumS v8.heap.size) 14 hinv (qa_ rfl) (NN.qbl_ rfl) (tb_ hC hb) (SumS.below hb) ⟨wx.heap.size,NN.numC 0,hC.size,rfl,NN.Has.new _ _,rfl⟩ (PhA.made hnK (Nat.le_trans hpre hb.size))
  ·have hsz:=hz_ hinv 15
   obtain ⟨b',cs',hb1,e14,hb3,hb4⟩:=(gd_ hinv hdep 14 14)
   exact dS_ (S:=SumS v8.heap.size) 15 hinv (qa_ rfl) (NN.qaq_ rfl e14 (gd_ hinv hdep 13 79) hb3 hb4) (below_setRow hC hb1 _) (SumS.row hb3 hb4) rfl (PhA.last _ hsz ⟨b',e14,hb1,hb3.row _⟩)
 intro listed a' v9 hall hinv
 have hC:=hinv.c
 obtain ⟨bW,e14,hbW,hW⟩:=hinv.i.2 (hall 15 (by decide))
 have e0:a'.eval (.tmp 0) = .pointer (some ⟨b,0,none⟩):=hinv.old' 0
 have e4:a'.eval (.tmp 4) = .pointer (some ⟨bH,0,none⟩):=hinv.old' 4
 have e9:a'.eval (.tmp 9) = .pointer (some ⟨bI,0,none⟩):=hinv.old' 9
 have e11:a'.eval (.tmp 11) = .int .i64 (j:Int):=hinv.old' 11
 have e12:a'.eval (.tmp 12) = .pointer (some ⟨bS,0,none⟩):=hinv.old' 12
 obtain ⟨u,hu⟩:∃ u:Nat->Value,∀ t,u t=a'.eval (.tmp t):=⟨_,fun _=>rfl⟩
 rw[qbc_ a' 98 u hinv.tsize hinv.defers hu]
 rw[<-hu] at e0 e4 e9 e11 e12 e14
 clear hu hinv hall
 simp only[List.range,List.range.loop,List.map_cons,List.map_nil]
 rw[e0,e4,e9,e11,e12,e14]
 clear e0 e4 e9 e11 e12 e14
 have hH9:HdAt v9 bH h:=qd_ hC hH hH.lt
 have hI9:Has v9 bI (bytesV id) 28:=qd_ hC hI (Has.lt hI)
 have hS9:SpAt v9 bS x.s:=qd_ hC hS hS.lt
 have hB9:=tb_ hB hC
 have HLT:Hid (w.heap.size<=bH/\w.heap.size<=bI/\w.heap.size<=bS):=h_ ⟨by rw[HBH.out];exact Nat.le_refl _,HW2.out,HW5.out⟩
 clear hC hH hI hS hB hbW
 have c0:=hS9.c0 (z:=ht) E4
 have he:(⟨h,id,(j:Int),ht,z⟩:En).ok:=⟨ho,i32⟩
 have ze:=qad_ he
 have zz:=qad_ enZ_ok
 go_upto_region 20 with (first
  | (with_reducible refine qav_ rfl _ rfl _ rfl hH9 za ?_)
  | (with_reducible refine qfi_ rfl _ rfl _ rfl _ hI9 s1 ?_)
  | (with_reducible refine NN.qc_ rfl _ rfl _ rfl _ hW rfl ?_)
  | (with_reducible refine qyk_ rfl _ _ _ _ _ rfl ⟨h,id,(j:Int),ht,z⟩ he rfl rfl rfl rfl rfl ?_)
  | (with_reducible refine qbo_ rfl _ _ rfl _ _ ⟨h,id,(j:Int),ht,z⟩ rfl rfl rfl ze (qcr_ v9) zz ?_))
 generalize hw4:World.setRow _ _ _=v10
 have hb2:Below v9.heap.size v9 v10:=bw_ hw4
 have hE:EnAt v10 v9.heap.size ⟨h,id,(j:Int),ht,z⟩:=by rw[<-hw4];exact Has.row (qcr_ v9) _
 have hH10:=hH9.on hb2
 have hS10:=hS9.on hb2
 have hB10:=tb_ hB9 hb2
 have HLE:Hid (w.heap.size<=v9.heap.size):=h_ hB9.size
 clear hw4 hb2 hH9 hI9 hS9 hW c0 hB9
 obtain ⟨bE,hbE⟩:∃ b,b=v9.heap.size:=⟨_,rfl⟩
 rw[<-hbE] at hE |-
 have HLE2:Hid (w.heap.size<=bE):=h_ (by rw[hbE];exact HLE.out)
 clear hbE
 simp only[Act.put]
 have hA10:=HA.out _ hB10
 have hA0:=HA.out _ (Below.refl _ _)
 generalize hF:(fun i=>i=b\/i=mb\/(Value.slice (some ⟨g,0,none⟩) n c).ownBlock=some i)=F
 have fl:∀ i,F i->i<w.heap.size:=fun i hi=>by
  rw[<-hF] at hi
  exact hA0.mine_lt (.inr hi)
 have HFE:=h_ hF
 have FL:∀ k,w.heap.size<=k->¬F k:=fun k hk hf=>by have:=fl k hf;omega
 have hz:=qax_ hp
 clear hF hA0
 refine qh_ (by kernel_rfl) (fun w'=>Kp F v10 w') (fun i v' w'=>PtR v10.heap.size b n p x.s h (En.mk h id (j:Int) ht z) q9 i v' w') (fun l _ w'=>Ph 9 (fun w'=>Below v10.heap.size v10 w'/\Ara w' I b p t gs cs room (.slice (some ⟨g,0,none⟩) n c) mb L) (fun w'=>PtPost w.heap.size I b p t gs cs room (.slice (some ⟨g,0,none⟩) n c) mb L (En.mk h id (j:Int) ht z) q9 w') l w') (fun w w'=>Kp F w w') (fun w' _=>Kp.refl _ w') (fun i v w w' _ hs h=>qtk_ (fun i hi=>Nat.lt_of_lt_of_le (fl i hi) hB10.size) i v w w' hs h) (by kernel_rfl) (Kp.of (Below.refl _ _).drew) ?_ ?_ ?_
 ·exact fun l hl=>Ph.zero hl ⟨(Below.refl _ _).drew,hA10.below (Below.refl _ _).drew⟩
 ·intro i o listed a wx ho' hnl hdep hinv
  have hC:=hinv.c
  have hI:=hinv.i
  have hi:i<13:=(Array.getElem?_eq_some_iff.1 ho').1
  have hHx:HdAt wx bH h:=hC.has hH10 (FL _ HLT.out.1)
  have hSx:SpAt wx bS x.s:=hC.has hS10 (FL _ HLT.out.2.2)
  have hEx:EnAt wx bE (En.mk h id (j:Int) ht z):=hC.has hE (FL _ HLE2.out)
  obtain rfl|rfl|rfl|rfl|rfl|rfl|rfl|rfl|rfl|rfl|rfl|rfl|rfl:i=0\/i=1\/i=2\/i=3\/i=4\/i=5\/i=6\/i=7\/i=8\/i=9\/i=10\/i=11\/i=12:=by omega
  all_goals obtain rfl:=Option.some.inj ho'
  ·have hsz:=hz_ hinv 0
   exact dV_ (S:=fun w w'=>Kp F w w') (fun w' _=>Kp.refl _ w') 0 hinv (qa_ rfl) (NN.qu_ rfl) (hinv.old' 0) (hI.keep hsz (by decide))
  ·have hsz:=hz_ hinv 1
   exact dV_ (S:=fun w w'=>Kp F w w') (fun w' _=>Kp.refl _ w') 1 hinv (qa_ rfl) (qhs_ rfl (hinv.old' 15) (qyu_ hEx) (qbh_ he)) rfl (hI.keep hsz (by decide))
  ·have hsz:=hz_ hinv 2
   exact dV_ (S:=fun w w'=>Kp F w w') (fun w' _=>Kp.refl _ w') 2 hinv (qa_ rfl) (NN.qu_ rfl) (hinv.old' 0) (hI.keep hsz (by decide))
  ·have hsz:=hz_ hinv 3
   exact dV_ (S:=fun w w'=>Kp F w w') (fun w' _=>Kp.refl _ w') 3 hinv (qa_ rfl) (ex_nil rfl (gd_ hinv hdep 2 90)) rfl (hI.keep hsz (by decide))
  ·have hsz:=hz_ hinv 4
   exact dV_ (S:=fun w w'=>Kp F w w') (fun w' _=>Kp.refl _ w') 4 hinv (qa_ rfl) (qau_ rfl (gd_ hinv hdep 3 91) (afield0 wx b)) rfl (hI.keep hsz (by decide))
  ·have hsz:=hz_ hinv 5
   have hnK:=ah_ hinv hnl 9
   have hpre:=hI.pre hnK hsz (by decide)
   exact dV_ (S:=fun w w'=>Kp F w w') (fun w' _=>Kp.refl _ w') 5 hinv (qa_ rfl) (qma_ rfl (gd_ hinv hdep 4 92) (ar_pr hpre.2.has) hz) rfl (hI.keep hsz (by decide))
  ·have hsz:=hz_ hinv 6
   exact dV_ (S:=fun w w'=>Kp F w w') (fun w' _=>Kp.refl _ w') 6 hinv (qa_ rfl) (qht_ rfl (hinv.old' 12) (qyv_ hSx) z3) rfl (hI.keep hsz (by decide))
  ·have hsz:=hz_ hinv 7
   exact dV_ (S:=fun w w'=>Kp F w w') (fun w' _=>Kp.refl _ w') 7 hinv (qa_ rfl) (qdq_ rfl (hinv.old' 4) hHx.range (qj_ ho)) rfl (hI.keep hsz (by decide))
  ·have hsz:=hz_ hinv 8
   have hnK:=ah_ hinv hnl 9
   have hpre:=hI.pre hnK hsz (by decide)
   exact qci_ (V:=fun v w'=>∃ s,v = .agg (spA s)/\SpIs w' wx.heap.size s q9) (C:=(fun w'=>Kp F v10 w')) (S:=(fun w w'=>Kp F w w')) (R:=fun v' w'=>PtR v10.heap.size b n p x.s h (En.mk h id (j:Int) ht z) q9 8 v' w') (J:=fun _ w'=>Ph 9 (fun w'=>Below v10.heap.size v10 w'/\Ara w' I b p t gs cs room (.slice (some ⟨g,0,none⟩) n c) mb L) (fun w'=>PtPost w.heap.size I b p t gs cs room (.slice (some ⟨g,0,none⟩) n c) mb L (En.mk h id (j:Int) ht z) q9 w') (listed.setIfInBounds 8 true) w') (qa_ rfl) (f:=64) (args:=#[a.eval (.tmp 93),a.eval (.tmp 94),a.eval (.tmp 95)]) (by kernel_rfl) (by
    rw[show a.eval (.tmp 93)=_ from (gd_ hinv hdep 5 93),show a.eval (.tmp 94)=_ from (gd_ hinv hdep 6 94),show a.eval (.tmp 95)=_ from (gd_ hinv hdep 7 95)]
    refine (KB.out wx ?_).mono ?_
    ·exact tb_ hB10 hpre.1
    ·rintro r w' ⟨s,rfl,h2,h3⟩
     exact ⟨_,rfl,⟨s,rfl,h2⟩,h3⟩) (fun v w' hv hb=>⟨hC.trans (Kp.of (F:=F) hb) (fun i hi _=>hi),Kp.of hb,(by
     obtain ⟨s,rfl,h2⟩:=hv
     exact ⟨s,rfl,(by unfold Sp.ok;rw[h2.2.1];exact q32),qpk_ h2 fun i hi _=>Nat.le_trans hC.size hi⟩),Ph.made hnK ⟨tb_ hpre.1 hb,hpre.2.below hb⟩⟩)
  ·have hsz:=hz_ hinv 9
   have hpre:=hI.1 hnl
   obtain ⟨s,e96,so,hJ⟩:=(gd_ hinv hdep 8 96)
   exact dA_ (S:=fun w w'=>Kp F w w') 9 hinv (qa_ rfl) (f:=51) (args:=#[a.eval (.tmp 88),a.eval (.tmp 89),a.eval (.tmp 96)]) (by kernel_rfl) (by
    rw[show a.eval (.tmp 88)=_ from (gd_ hinv hdep 0 88),show a.eval (.tmp 89)=_ from (gd_ hinv hdep 1 89),e96]
    obtain ⟨hn,hn9,hf⟩:=HE.out
    refine (qpu_ hpre.2 ⟨En.mk h id (j:Int) ht z,s,q9⟩ he so (fun i=>v10.heap.size<=i/\i<wx.heap.size) hJ.clip (fun i hi=>hi.2) (fun i hi hq=>?_) hn9 hf).mono ?_
    ·have:=fl i (by rw[<-HFE.out];exact hq)
     have:=hB10.size
     omega
    ·rintro r w' ⟨v',rfl,hA',hK,hl⟩
     have hKF:Kp F wx w':=hK.mono fun i hi _=>by rw[<-HFE.out];exact hi
     refine ⟨_,rfl,hC.trans hKF (fun i hi _=>hi),hKF,(by rw[<-hn];rfl),Ph.last hsz ⟨_,v',_,hA',fun i hi=>?_⟩⟩
     have h10:=hB10.size
     rcases hi with (hi|hi)|rfl|rfl|hi
     ·exact .inl (.inl hi)
     ·exact .inr (Nat.le_trans h10 hi.1)
     ·exact .inl (.inr (.inl rfl))
     ·exact .inl (.inr (.inr (.inl rfl)))
     ·rcases hl with hl|⟨g',hl,hg⟩
      ·exact .inl (.inr (.inr (.inr (hl.symm.trans hi))))
      ·rw[hl] at hi
       have hig:g'=i:=Option.some.inj hi
       have:=hC.size
       exact .inr (by omega))
  ·have hsz:=hz_ hinv 10
   exact dV_ (S:=fun w w'=>Kp F w w') (fun w' _=>Kp.refl _ w') 10 hinv (qa_ rfl) (NN.qak_ rfl) (gd_ hinv hdep 9 97) (hI.keep hsz (by decide))
  ·have hsz:=hz_ hinv 11
   exact dV_ (S:=fun w w'=>Kp F w w') (fun w' _=>Kp.refl _ w') 11 hinv (qa_ rfl) (NN.qak_ rfl) rfl (hI.keep hsz (by decide))
  ·have hsz:=hz_ hinv 12
   exact dV_ (S:=fun w w'=>Kp F w w') (fun w' _=>Kp.refl _ w') 12 hinv (qa_ rfl) (NN.qak_ rfl) rfl (hI.keep hsz (by decide))
 intro listed a' v11 hall hinv
 have hC:=hinv.c
 obtain ⟨I',v',s,hA11,hm⟩:=hinv.i.2 (hall 9 (by decide))
 have e6:a'.eval (.tmp 6) = .int .i64 (n:Int):=hinv.got 10 _ 6 rfl (hall 10 (by decide)) rfl
 have e7:a'.eval (.tmp 7) = .int .i64 0:=hinv.got 11 _ 7 rfl (hall 11 (by decide)) rfl
 have e8:a'.eval (.tmp 8) = .int .i64 0:=hinv.got 12 _ 8 rfl (hall 12 (by decide)) rfl
 obtain ⟨u,hu⟩:∃ u:Nat->Value,∀ t,u t=a'.eval (.tmp t):=⟨_,fun _=>rfl⟩
 rw[qbc_ a' 98 u hinv.tsize hinv.defers hu]
 rw[<-hu] at e6 e7 e8
 clear hu hinv hall
 simp only[List.range,List.range.loop,List.map_cons,List.map_nil]
 rw[e6,e7,e8]
 clear e6 e7 e8
 go_wp2_with fail
 go_ret3
 refine ⟨I',v',s,rfl,hA11,?_,hm⟩
 rw[HFE.out]
 exact (Kp.of (F:=F) hB10).trans hC (fun i hi _=>hi)
end Go.Proofs.YtbgjiplfaolpjaaGreatDoor.An
namespace Go.Proofs.YtbgjiplfaolpjaaGreatDoor.An
open Go.RowKit Mem Sc
open Ar (Ent Ru entZ Ok)
theorem qeu_ {w w':World} {F:Nat->Prop} {b:Nat} {r:Ru} {M:List Ent} (h:ArS w F b r M) (hb:Below w.heap.size w w'):ArS w' (Nxt F w w') b r M :=
 (h.below hb).wide (fun _ hi=>.inl hi) (nxt_lt h.1 hb.size)
theorem add_at {w:World} {F:Nat->Prop} {b:Nat} {r:Ru} {M:List Ent} (hA:ArS w F b r M) (hM:Ok r M) (hl:M.length<=900) (hgl:r.gs.length<=1000) (hcl:r.cs.length<=1000) (hT:Tab w) (h:Hd) (ho:h.ok) (now:Int) :
  Calls Tryz.prog 29 #[.pointer (some ⟨b,0,none⟩),.agg (hdA h),.int .i64 now] w fun e w'=>e = .returned (.tuple #[.int .i64 (Ar.add r M h now).1.1,.int .i64 (Ar.add r M h now).1.2.1,.int .i64 (Ar.add r M h now).1.2.2])/\ArS w' (Nxt F w w') b r (Ar.add r M h now).2/\Kp F w w':=by
 have KG:∀ g,decide h.P=g->HK_ w 58 #[.agg (hdA h)] (.bool g):=fun g hg=>h_ fun w' _=>by rw[<-hg];exact qeg_ h ho w'
 by_cases hP:h.P
 ·have KG1:=KG true (decide_eq_true hP)
  have KI:HK_ w 59 #[.agg (hdA h)] (.agg (bytesV h.id)):=h_ fun w' hb=>id_at h ho w' (hT.below hb)
  cases h1:Ar.fnd r.g M h.id with
  | some i=>
   have ea:Ar.add r M h now=((((i:Nat):Int),(0:Int),(0:Int)),M):=by unfold Ar.add;rw[if_neg (fun hh=>hh hP),h1]
   rw[ea]
   refine (qth_ b h ho now w KG1 h.id (qx_ h) KI i (h_ fun w' hb=>?_)).mono ?_
   ·have:=qkm_ (hA.below hb) h.id (qx_ h)
    rwa [h1] at this
   ·rintro e w' ⟨rfl,hb⟩
    exact ⟨rfl,qeu_ hA hb,Kp.of hb⟩
  | none=>
   have KF:HK_ w 60 #[.pointer (some ⟨b,0,none⟩),.agg (bytesV h.id)] (.int .i64 (-1)):=h_ fun w' hb=>by
    have:=qkm_ (hA.below hb) h.id (qx_ h)
    rwa [h1] at this
   cases h2:Ar.fnd r.g M h.prev with
   | none=>
    have ea:Ar.add r M h now=((-1,2,5),M):=by unfold Ar.add;rw[if_neg (fun hh=>hh hP),h1];simp only[h2]
    rw[ea]
    refine (qyt_ b h ho now w KG1 h.id (qx_ h) KI KF (h_ fun w' hb=>?_)).mono ?_
    ·have:=qkm_ (hA.below hb) h.prev ho.1
     rwa [h2] at this
    ·rintro e w' ⟨rfl,hb⟩
     exact ⟨rfl,qeu_ hA hb,Kp.of hb⟩
   | some j=>
    have KP:HK_ w 60 #[.pointer (some ⟨b,0,none⟩),.agg (bytesV h.prev)] (.int .i64 (j:Int)):=h_ fun w' hb=>by
     have:=qkm_ (hA.below hb) h.prev ho.1
     rwa [h2] at this
    obtain ⟨d,hd,_⟩:=Ar.qgi_ h2
    have hjl:=(List.getElem?_eq_some_iff.1 hd).1
    have eD:M.getD j entZ=d:=by rw[List.getD_eq_getElem?_getD,hd];rfl
    have hA':=hA
    obtain ⟨hFl,I,p,t,v,mb,L,a1,a2,a3,a4⟩:=hA'
    obtain ⟨s,hs⟩:=a3.at hd
    obtain ⟨g,c,rfl,hg,hr⟩:=a1.range hs
    have hx:=a1.good _ (List.mem_of_getElem? hs)
    have hLM:=a3.length
    have HA:Hid (∀w',Below w.heap.size w w'->Ara w' I b p t r.gs r.cs r.room (.slice (some ⟨g,0,none⟩) L.length c) mb L):=h_ fun w' hb=>a1.below hb
    have HR:Hid (∀w',Below w.heap.size w w'->w'.rangeAt g (j*144) (bkC (enOf r d) s)):=h_ fun w' hb=>qar_ hr hb (by rw[qcj_ hx.1 hx.2];omega)
    obtain ⟨c1,c2⟩:=hM.chain j d hd
    have q1:=way_h r.p r.g d.hs d.hs.length (Nat.le_refl _)
    have q2:=qxt_ r.p r.g d.hs d.hs.length (Nat.le_refl _)
    have q3:=way_ts r.p r.g d.hs d.hs.length (Nat.le_refl _)
    have KC:∀ y,Ar.why r d h now=y->HK_ w 61 #[.agg (NN.prA p),.agg (spA s),.agg (hdA h),.int .i64 now] (.int .i64 y):=fun y hy=>h_ fun w' hb=>by
     have hAw:=HA.out w' hb
     have hsp:=(hAw.spots _ (List.mem_of_getElem? hs)).now
     have:=qxx_ p hAw.pok t hAw.tt r.gs r.cs hAw.gn hAw.cn (by rw[hAw.gn];exact hgl) (by rw[hAw.cn];exact hcl) s (Ar.spot r d) hsp.1 hsp.2.1 hsp.2.2.1 hsp.2.2.2.1 q2 (by rw[<-hsp.2.2.1];show (way r.p r.g d.hs d.hs.length).ts.length<=_;rw[q3];omega) h ho now w' (hT.below hb) (hsp.2.2.2.2.2.wide (Nat.le_refl _) (Nat.le_refl _)) hAw.gates.now hAw.checks.now
     rw[qsy_ a2] at this
     rw[<-hy]
     exact this
    by_cases h3:Ar.why r d h now=0
    ·by_cases h4:r.room<=M.length
     ·have ea:Ar.add r M h now=((-1,0,6),M):=by unfold Ar.add;rw[if_neg (fun hh=>hh hP),h1];simp only[h2,eD];rw[if_neg (fun hh=>hh h3),if_pos h4]
      rw[ea]
      refine (qyw_ b h ho now w KG1 h.id (qx_ h) KI KF HA ⟨enOf r d,s,Ar.spot r d⟩ hx.1 hx.2 j (by rw[hLM];exact hjl) HR KP (KC 0 h3) (by rw[hLM];exact h4)).mono ?_
      rintro e w' ⟨rfl,hb⟩
      exact ⟨rfl,qeu_ hA hb,Kp.of hb⟩
     ·have ea:Ar.add r M h now=((((M.length:Nat):Int),(0:Int),(0:Int)),M ++ [⟨d.hs ++ [h],(j:Int)⟩]):=by unfold Ar.add;rw[if_neg (fun hh=>hh hP),h1];simp only[h2,eD];rw[if_neg (fun hh=>hh h3),if_neg h4]
      rw[ea]
      have hf:(L.map (·.e.id)).findIdx? (· == h.id)=none:=by rw[a3.find];exact h1
      have sx:s.x=(Ar.spot r d).x:=((a1.spots _ (List.mem_of_getElem? hs)).now).1
      refine (add_new b h ho now w KG1 h.id (qx_ h) KI KF HA ⟨enOf r d,s,Ar.spot r d⟩ hx.1 hx.2 j (by rw[hLM];exact hjl) HR KP (KC 0 h3) (by rw[hLM];exact h4) (NN.ofBits h.bits) (NN.Nm.cap (wkOf r d.hs+NN.ofBits h.bits)) (h_ fun w'=>NN.wbits h.bits w') (h_ fun b' w' hL=>NN.wsum2 _ _ (qpm_ r d.hs) (NN.qkj_ _) _ rfl b' w' hL) (bh r.p (Ar.spot r d) h) (qx_ h) (h_ fun w' hb=>?_) (d.hs.length+1:Nat) (by show s.x.h=_;rw[sx];exact q1) rfl (by rw[hLM];exact hl) hf).mono ?_
      ·have hAw:=HA.out w' hb
       have hsp:=(hAw.spots _ (List.mem_of_getElem? hs)).now
       refine (qkg_ p hAw.pok s hx.2 (Ar.spot r d).ts hsp.2.2.1 hsp.2.2.2.1 (by rw[<-hsp.2.2.1];show (way r.p r.g d.hs d.hs.length).ts.length<=_;rw[q3];omega) (by obtain ⟨b2,e⟩:=hsp.2.2.2.2.1;rw[e];intro h;cases h) (by rw[sx];show 0<=(way r.p r.g d.hs d.hs.length).x.h;rw[q1];omega) (by rw[sx];show (way r.p r.g d.hs d.hs.length).x.h<=_;rw[q1];omega) h ho w' (hT.below hb) (hsp.2.2.2.2.2.wide (Nat.le_refl _) (Nat.le_refl _))).mono ?_
       rintro r2 w2 ⟨b',c',rfl,g1,g2,g3⟩
       refine ⟨_,rfl,⟨?_,rfl,rfl,g1,⟨b',rfl⟩,g2⟩,g3⟩
       show bhx p s.x h=bhx r.p (Ar.spot r d).x h
       rw[sx]
       exact congrArg Ps.x (qyj_ a2 (Ar.spot r d) h)
      ·rintro e w' ⟨I',v',s',rfl,g1,g2,g3⟩
       have hK:Kp F w w':=g2.mono fun i hi _=>a4 i (.inr hi)
       refine ⟨by rw[hLM],⟨nxt_lt hFl hK.size,I',p,t,v',mb,_,g1,a2,?_,fun i hi=>?_⟩,hK⟩
       ·have hp:=a3.put ⟨d.hs ++ [h],(j:Int)⟩ s'
        have e1:enOf r ⟨d.hs ++ [h],(j:Int)⟩=⟨h,h.id,(j:Int),((d.hs.length+1:Nat):Int),NN.Nm.cap (wkOf r d.hs+NN.ofBits h.bits)⟩:=by
         unfold enOf
         rw[Ar.h_app,qpl_]
         simp
        rw[e1,Ar.qsq_] at hp
        exact hp
       ·rcases g3 i hi with hi2|hi2
        ·exact .inl (a4 i hi2)
        ·exact .inr ⟨hi2,g1.mine_lt hi⟩
    ·have ea:Ar.add r M h now=((-1,Ar.why r d h now,8),M):=by unfold Ar.add;rw[if_neg (fun hh=>hh hP),h1];simp only[h2,eD];rw[if_pos h3]
     rw[ea]
     refine (qti_ b h ho now w KG1 h.id (qx_ h) KI KF HA ⟨enOf r d,s,Ar.spot r d⟩ hx.1 hx.2 j (by rw[hLM];exact hjl) HR KP (Ar.why r d h now) (by simpa using h3) (KC _ rfl)).mono ?_
     rintro e w' ⟨rfl,hb⟩
     exact ⟨rfl,qeu_ hA hb,Kp.of hb⟩
 ·have ea:Ar.add r M h now=((-1,1,8),M):=by unfold Ar.add;rw[if_pos hP]
  rw[ea]
  refine (add_bad b h ho now w (KG false (decide_eq_false hP))).mono ?_
  rintro e w' ⟨rfl,hb⟩
  exact ⟨rfl,qeu_ hA hb,Kp.of hb⟩
end Go.Proofs.YtbgjiplfaolpjaaGreatDoor.An
namespace Go.Proofs.YtbgjiplfaolpjaaGreatDoor.An
open Go.RowKit Mem Sc
theorem qtl_ (p:NN.Pr) (hz:(NN.prA p).size=83) (t:Tl) (tt:p.tl=t.C) (ht:t.ok) (gs:List Gt) (cs:List Ck) (gn cn:Nat) (egn:t.gn=gn) (ecn:t.cn=cn) (hgn:gn=gs.length) (hcn:cn=cs.length) (hgl:gn<=1000) (hcl:cn<=1000) (b1 b2 g1 g2 gall:Bool) (hg1:gUp (-1) gs=g1) (hg2:cUp 0 cs=g2) (hall:(b1 && b2 && g1 && g2)=gall) (w:World) (hG:GatesAt w t.ga gs) (hC:ChecksAt w t.ca cs)
  (KP:HG_ 48 #[.agg (NN.prA p)] (.bool b1))
  (KH:HG_ 33 #[.agg (hdA t.g)] (.bool b2)) :
  Ca_ 24 #[.agg (NN.prA p)] w (.bool gall):=by
 have HNG:=h_ hgn
 have HNC:=h_ hcn
 have HAG:=h_ hG
 have HAC:=h_ hC
 have HVG:=h_ hg1
 have HVC:=h_ hg2
 have HALL:=h_ hall
 clear hgn hcn hG hC hg1 hg2 hall
 go_enter Tryz.func24,Tryz.ntmps24
 go_upto_region 1 with fail
 generalize hw0:World.alloc _ _=v0
 have hB:Below w.heap.size w v0:=bl_ hw0
 have hP:NN.PrAt v0 w.heap.size p:=by rw[<-hw0];exact NN.Has.new _ _
 clear hw0
 obtain ⟨bP,hbP⟩:∃ x,x=w.heap.size:=⟨_,rfl⟩
 rw[<-hbP] at hP |-
 clear hbP
 have gq:=qj_ ht.2
 go_wp2_with (first|fail|(with_reducible refine NN.qs_ rfl _ rfl _ rfl hP hz ?_))
 refine (KP.out _).mono ?_
 rintro e v1 ⟨rfl,hb⟩
 replace hP:=hP.on hb
 replace hB:=tb_ hB hb
 clear hb
 cases b1
 ·have hv:=HALL.out
  go_wp2_with fail
  go_ret
  exact ⟨by rw[<-hv];rfl,hB⟩
 have rg:=pr_gen hP tt ht
 go_wp2_with (first|fail|(with_reducible refine qdx_ (by with_unfolding_all rfl) _ rfl bP 15 rfl t.g rg gq ?_))
 refine (KH.out _).mono ?_
 rintro e v2 ⟨rfl,hb⟩
 replace hP:=hP.on hb
 replace hB:=tb_ hB hb
 clear hb rg
 cases b2
 ·have hv:=HALL.out
  go_wp2_with fail
  go_ret
  exact ⟨by rw[<-hv];rfl,hB⟩
 have c5:=qdn_ hP tt
 rw[egn] at c5
 generalize hga:t.ga=ga at *
 generalize t.gc=gc at *
 go_wp2_with fail
 clear c5
 go_loopw [3,20] (fun m i wr=>∃ k:Nat,k<=gn/\i = .int .i64 (k:Int)/\∃ z:Int,m = .int .i64 z/\Hid (gUp z (gs.drop k)=g1)/\NN.PrAt wr bP p/\Below w.heap.size w wr) (fun _ i _=>gn - (intOf i).toNat)
 case atStart=>exact ⟨0,by omega,rfl,_,rfl,HVG,hP,hB⟩
 case round=>
  clear hP hB
  obtain ⟨k,hk,rfl,z,rfl,HZ,hP,hB⟩:=hrel
  by_cases hlt:k<gn
  ·obtain ⟨ab,ao,hae,habl,hc⟩:=(HAG.out.below hB) (by rw[<-HNG.out];omega)
   subst hae
   have hd:gs.drop k=gs.getD k gtZ :: gs.drop (k+1):=by
    have hk2:k<gs.length:=by rw[<-HNG.out];exact hlt
    rw[List.drop_eq_getElem_cons hk2,List.getD_eq_getElem?_getD,List.getElem?_eq_getElem hk2];rfl
   have q0:=hc k (by rw[<-HNG.out];omega)
   rw[show gs[k]'(by rw[<-HNG.out];omega)=gs.getD k gtZ by rw[List.getD_eq_getElem?_getD,List.getElem?_eq_getElem (by rw[<-HNG.out];omega)];rfl] at q0
   have hx:=HZ.out
   rw[hd] at hx
   clear hd HZ
   generalize gs.getD k gtZ=y at *
   have HX:=h_ hx
   clear hx hc
   have hnew:=qop_ wr
   have hb2:Below wr.heap.size wr ((wr.alloc (.cells #[.int .i64 0,.int .i64 0] 97)).setRow wr.heap.size (gtA y)):=below_setRow ((Below.refl _ _).alloc (Nat.le_refl _) _) (Nat.le_refl _) _
   have hG:GtAt ((wr.alloc (.cells #[.int .i64 0,.int .i64 0] 97)).setRow wr.heap.size (gtA y)) wr.heap.size y:=Has.row hnew _
   have hB2:=tb_ hB hb2
   have hP2:=NN.PrAt.on hP hb2
   have c0:=hG.c0
   clear hG hB hb2 hP
   cases t1:decide (y.h<=z)
   ·have HZ2:Hid (gUp y.h (gs.drop (k+1))=g1):=h_ (by
     have:=HX.out
     rw[show gUp z (y :: gs.drop (k+1))=(decide (z<y.h) && gUp y.h (gs.drop (k+1))) from rfl,decide_eq_true (show z<y.h by have:=of_decide_eq_false t1;omega),Bool.true_and] at this
     exact this)
    clear HX
    obtain ⟨yh,hyh⟩:∃ yh,yh=y.h:=⟨_,rfl⟩
    rw[<-hyh] at c0 t1 HZ2
    clear hyh
    go_wp2_with (with_reducible first|refine qbi_ rfl _ rfl ab (ao+k*2) rfl y q0 ?_|refine qdl_ rfl _ _ rfl _ y rfl rfl hnew ?_)
    go_roundw
    case rel=>exact ⟨k+1,by omega,by go_num,yh,rfl,HZ2,hP2,hB2⟩
    case measure=>simp[intOf];omega
   ·have hgf:g1=false:=by
     rw[<-HX.out,show gUp z (y :: gs.drop (k+1))=(decide (z<y.h) && gUp y.h (gs.drop (k+1))) from rfl,decide_eq_false (show ¬z<y.h by have:=of_decide_eq_true t1;omega),Bool.false_and]
    have hv:=HALL.out
    rw[hgf] at hv
    clear HX
    go_wp2_with (with_reducible first|refine qbi_ rfl _ rfl ab (ao+k*2) rfl y q0 ?_|refine qdl_ rfl _ _ rfl _ y rfl rfl hnew ?_)
    go_ret
    exact ⟨by rw[<-hv];simp,hB2⟩
  ·obtain rfl:k=gn:=by omega
   have e:g1=true:=by
    have:=HZ.out
    rw[HNG.out,List.drop_length] at this
    exact this.symm
   subst e
   have c6:=qcl_ hP tt
   rw[ecn] at c6
   generalize hca:t.ca=ca at *
   generalize t.cc=cc at *
   go_wp2_with fail
   clear c6
   have hB':=hB
   have hP':=hP
   go_loopw [3,34] (fun m i wr=>∃ k:Nat,k<=cn/\i = .int .i64 (k:Int)/\∃ z:Int,m = .int .i64 z/\Hid (cUp z (cs.drop k)=g2)/\NN.PrAt wr bP p/\Below w.heap.size w wr) (fun _ i _=>cn - (intOf i).toNat)
   case atStart=>exact ⟨0,by omega,rfl,_,rfl,HVC,hP',hB'⟩
   case round=>
    clear hP' hB' hP hB
    obtain ⟨k,hk,rfl,z,rfl,HZ,hP,hB⟩:=hrel
    by_cases hlt:k<cn
    ·obtain ⟨ab,ao,hae,habl,hc⟩:=(HAC.out.below hB) (by rw[<-HNC.out];omega)
     subst hae
     have hd:cs.drop k=cs.getD k ckZ :: cs.drop (k+1):=by
      have hk2:k<cs.length:=by rw[<-HNC.out];exact hlt
      rw[List.drop_eq_getElem_cons hk2,List.getD_eq_getElem?_getD,List.getElem?_eq_getElem hk2];rfl
     have q0:=hc k (by rw[<-HNC.out];omega)
     rw[show cs[k]'(by rw[<-HNC.out];omega)=cs.getD k ckZ by rw[List.getD_eq_getElem?_getD,List.getElem?_eq_getElem (by rw[<-HNC.out];omega)];rfl] at q0
     have hx:=HZ.out
     rw[hd] at hx
     clear hd HZ
     generalize cs.getD k ckZ=y at *
     have HX:=h_ hx
     clear hx hc
     have z1:=qbr_ q0.1
     have z2:=qgd_ q0.1
     have z0:=qgd_ (c:=ckZ) rfl
     have hnew:=qoq_ wr
     have hb2:Below wr.heap.size wr ((wr.alloc (.cells #[.int .i64 0,.int .u8 0,.int .u8 0,.int .u8 0,.int .u8 0,.int .u8 0,.int .u8 0,.int .u8 0,.int .u8 0,.int .u8 0,.int .u8 0,.int .u8 0,.int .u8 0,.int .u8 0,.int .u8 0,.int .u8 0,.int .u8 0,.int .u8 0,.int .u8 0,.int .u8 0,.int .u8 0,.int .u8 0,.int .u8 0,.int .u8 0,.int .u8 0,.int .u8 0,.int .u8 0,.int .u8 0,.int .u8 0,.int .u8 0,.int .u8 0,.int .u8 0,.int .u8 0] 99)).setRow wr.heap.size (ckA y)):=below_setRow ((Below.refl _ _).alloc (Nat.le_refl _) _) (Nat.le_refl _) _
     have hG:CkAt ((wr.alloc (.cells #[.int .i64 0,.int .u8 0,.int .u8 0,.int .u8 0,.int .u8 0,.int .u8 0,.int .u8 0,.int .u8 0,.int .u8 0,.int .u8 0,.int .u8 0,.int .u8 0,.int .u8 0,.int .u8 0,.int .u8 0,.int .u8 0,.int .u8 0,.int .u8 0,.int .u8 0,.int .u8 0,.int .u8 0,.int .u8 0,.int .u8 0,.int .u8 0,.int .u8 0,.int .u8 0,.int .u8 0,.int .u8 0,.int .u8 0,.int .u8 0,.int .u8 0,.int .u8 0,.int .u8 0] 99)).setRow wr.heap.size (ckA y)) wr.heap.size y:=Has.row hnew _
     have hB2:=tb_ hB hb2
     have hP2:=NN.PrAt.on hP hb2
     have c0:=hG.c0
     clear hG hB hb2 hP
     cases t1:decide (y.h<=z)
     ·have HZ2:Hid (cUp y.h (cs.drop (k+1))=g2):=h_ (by
       have:=HX.out
       rw[show cUp z (y :: cs.drop (k+1))=(decide (z<y.h) && cUp y.h (cs.drop (k+1))) from rfl,decide_eq_true (show z<y.h by have:=of_decide_eq_false t1;omega),Bool.true_and] at this
       exact this)
      clear HX
      obtain ⟨yh,hyh⟩:∃ yh,yh=y.h:=⟨_,rfl⟩
      rw[<-hyh] at c0 t1 HZ2
      clear hyh
      go_wp2_with (with_reducible first|refine qbb_ rfl _ rfl ab (ao+k*33) rfl y q0.2 z1 ?_|refine qcv_ rfl _ _ rfl _ y rfl rfl z2 hnew z0 ?_)
      go_roundw
      case rel=>exact ⟨k+1,by omega,by go_num,yh,rfl,HZ2,hP2,hB2⟩
      case measure=>simp[intOf];omega
     ·have hgf:g2=false:=by
       rw[<-HX.out,show cUp z (y :: cs.drop (k+1))=(decide (z<y.h) && cUp y.h (cs.drop (k+1))) from rfl,decide_eq_false (show ¬z<y.h by have:=of_decide_eq_true t1;omega),Bool.false_and]
      have hv:=HALL.out
      rw[hgf] at hv
      clear HX
      go_wp2_with (with_reducible first|refine qbb_ rfl _ rfl ab (ao+k*33) rfl y q0.2 z1 ?_|refine qcv_ rfl _ _ rfl _ y rfl rfl z2 hnew z0 ?_)
      go_ret
      exact ⟨by rw[<-hv];simp,hB2⟩
    ·obtain rfl:k=cn:=by omega
     have e:g2=true:=by
      have:=HZ.out
      rw[HNC.out,List.drop_length] at this
      exact this.symm
     subst e
     have hv:=HALL.out
     go_wp2_with fail
     go_ret
     exact ⟨by rw[<-hv];rfl,hB⟩
theorem qpv_ (p:NN.Pr) (hp:p.ok) (t:Tl) (tt:p.tl=t.C) (ht:t.ok) (gs:List Gt) (cs:List Ck) (hgn:t.gn=gs.length) (hcn:t.cn=cs.length) (hgl:t.gn<=1000) (hcl:t.cn<=1000) (w:World) (hG:GatesAt w t.ga gs) (hC:ChecksAt w t.ca cs) :
  Ca_ 24 #[.agg (NN.prA p)] w (.bool (ruleP p t.g gs cs)) :=
 qtl_ p (NN.qam_ hp) t tt ht gs cs t.gn t.cn rfl rfl hgn hcn hgl hcl _ _ _ _ _ rfl rfl rfl w hG hC (h_ (NN.qig_ p)) (h_ (qig_ t.g ht.2))
end Go.Proofs.YtbgjiplfaolpjaaGreatDoor.An
namespace Go.Proofs.YtbgjiplfaolpjaaGreatDoor.An
open Go.RowKit Mem Sc
open Ar (Ent Ru entZ Ok)
structure Cm where
 h:Hd
 now:Int
def cmZ:Cm:=⟨hdZ,0⟩
section
variable {w w':World} {k:Nat} {c:Cm}
variable {ops:Array Oper} {rest:List Oper} {o:Oper} {a:Act} {Q:Exit->Act->World->Prop}
end
def neg (cs:List Cm):Bool:=cs.any (fun c=>decide (c.now<0))
end Go.Proofs.YtbgjiplfaolpjaaGreatDoor.An
namespace Go.Proofs.YtbgjiplfaolpjaaGreatDoor.An
open Go.RowKit Mem Sc
open Ar (Ent Ru entZ Ok)
theorem qtm_ {w:World} {ops:Array Oper} {rest:List Oper} {o:Oper} {a:Act} {Q:Exit->Act->World->Prop} (hgd:o.guard=none) (ho:o.op = .build 32 #[(0,.const (.int .i64 545259519)),(1,.const (.int .i64 4)),(2,.const (.int .i64 10))])
  (hk:wpList Tryz.prog ops Q rest (a.put o.dst (.agg (NN.prA NN.prL))) w):wpList Tryz.prog ops Q (o :: rest) a w:=NN.qxc_ hgd ho hk
end Go.Proofs.YtbgjiplfaolpjaaGreatDoor.An
namespace Go.Proofs.YtbgjiplfaolpjaaGreatDoor.An
open Go.RowKit Mem Sc
open Ar (Ent Ru entZ Ok)
section
variable {w:World} {k:Nat} {e:En}
theorem EnAt.head (h:EnAt w k e):w.rangeAt k 0 (hdC e.h):=by
 have:=qbm_ (A:=[]) (cs:=hdC e.h) (C:=Lib.byteCells e.id ++ (.int .i64 e.up :: .int .i64 e.ht :: (NN.numC e.wk).toList)) (o:=0) (w:=w) (b:=k) (t:=81) h rfl
 exact this
theorem EnAt.tail (h:EnAt w k e) (ho:e.ok):w.rangeAt k 100 (.int .i64 e.up :: .int .i64 e.ht :: (NN.numC e.wk).toList):=by
 have:=qbm_ (A:=hdC e.h ++ Lib.byteCells e.id) (cs:=.int .i64 e.up :: .int .i64 e.ht :: (NN.numC e.wk).toList) (C:=[]) (o:=100) (w:=w) (b:=k) (t:=81) (by rw[List.append_nil,List.append_assoc];exact h) (by simp[qj_ ho.1,qf_ ho.2])
 exact this
theorem EnAt.up (h:EnAt w k e) (ho:e.ok) {z:Int} (hz:Hid (e.up=z)):w.cell? ⟨k,100,none⟩=some (.int .i64 z):=by rw[<-hz.out];exact h.tail ho 0 _ rfl
theorem EnAt.ht (h:EnAt w k e) (ho:e.ok) {z:Int} (hz:Hid (e.ht=z)):w.cell? ⟨k,101,none⟩=some (.int .i64 z):=by rw[<-hz.out];exact h.tail ho 1 _ rfl
theorem qpw_ (w:World) (e:En):EnAt ((w.alloc (.cells Tryz.zeroCells81 81)).setRow w.heap.size (enA e)) w.heap.size e:=Has.row (qcr_ w) _
end
theorem qjf_ (w:World) (T:TypeId) (z cs:Array Value):Below w.heap.size w ((w.alloc (.cells z T)).setRow w.heap.size cs):=below_setRow ((Below.refl _ _).alloc (Nat.le_refl _) _) (Nat.le_refl _) _
end Go.Proofs.YtbgjiplfaolpjaaGreatDoor.An
namespace Go.Proofs.YtbgjiplfaolpjaaGreatDoor.An
open Go.RowKit Mem Sc
open Ar (Ent Ru entZ Ok)
theorem qyx_:∃ i y,Tryz.prog.info? 3=some i/\i.zero=some y/\i.size=1/\i.bytes=8/\y.cells.size=1:=qke_ (by kernel_rfl) (by kernel_rfl) (by kernel_rfl)
end Go.Proofs.YtbgjiplfaolpjaaGreatDoor.An
namespace Go.Proofs.YtbgjiplfaolpjaaGreatDoor.An
open Go.RowKit Mem Sc NN.Rg2
open Ar (Ent Ru entZ)
section
variable {w w':World} {B:Nat} {F G:Nat->Prop} {b:Nat} {r:Ru} {M:List Ent}
end
end Go.Proofs.YtbgjiplfaolpjaaGreatDoor.An
namespace Go.Proofs.YtbgjiplfaolpjaaGreatDoor.An
open Go.RowKit Mem Sc NN.Rg2
open Ar (Ent Ru entZ)
end Go.Proofs.YtbgjiplfaolpjaaGreatDoor.An
namespace Go.Proofs.YtbgjiplfaolpjaaGreatDoor.An
open Go.RowKit Mem Sc NN.Rg2
open Ar (Ent Ru entZ Ok Row)
theorem qvc_ {w:World} {v:Value} {l:List Int} {base n:Nat} (h:w.ownsRow base 3 1 v n (l.map (Value.int .i64))) {k:Nat} {x:Int} (hx:l[k]?=some x):∃ g c,v = .slice (some ⟨g,0,none⟩) n c/\w.cell? ⟨g,k,none⟩=some (.int .i64 x):=by
 have hk:=(List.getElem?_eq_some_iff.1 hx).1
 obtain ⟨hlen,⟨rfl,hm0⟩|⟨g2,c,cur,rfl,q1,q2,q3,q4,q5,q6⟩⟩:=h
 ·rw[List.length_map] at hlen;omega
 ·refine ⟨g2,c,rfl,?_⟩
  have e:(cur.toList.take (n*1))[k]?=some (Value.int .i64 x):=by rw[q6,List.getElem?_map,hx];rfl
  rw[Has.cell (show Has w g2 cur 3 from q2),<-Array.getElem?_toList]
  rw[List.getElem?_take] at e
  split at e
  ·exact e
  ·cases e
end Go.Proofs.YtbgjiplfaolpjaaGreatDoor.An
namespace Go.Proofs.YtbgjiplfaolpjaaGreatDoor.An
open Go.RowKit Mem Sc NN.Rg2
open Ar (Ent Ru entZ Ok)
end Go.Proofs.YtbgjiplfaolpjaaGreatDoor.An
namespace Go.Proofs.YtbgjiplfaolpjaaGreatDoor.An
open Go.RowKit Mem Sc NN.Rg2
end Go.Proofs.YtbgjiplfaolpjaaGreatDoor.An
namespace Go.Proofs.YtbgjiplfaolpjaaGreatDoor.An
open Go.RowKit Mem Sc NN.Rg2
open Ar (Ent Ru entZ Ok)
section
variable {w:World} {b:Nat} {p:NN.Pr} {vH vI vA vW:Value} {room:Nat}
end
section
variable {ρ:Operand->Value} {o:Oper} {w w':World}
theorem qpx_ {T:TypeId} {x:Operand} {p:Addr} {u:Value} (ho:o.op = .load T x) (hx:ρ x = .pointer (some p)) (hl:(loadVar T p).run Tryz.prog w = .ok u w):(execOp ρ o).run Tryz.prog w = .ok (.value u) w:=by
 unfold execOp
 simp only[ho,hx,Instr.loadAt,Instr.sureAddr,Sem.run_bind,Sem.run_pure,Result.andThen_ok,hl]
theorem qmf_ {T:TypeId} {x y:Operand} {p:Addr} {u:Value} (ho:o.op = .store T x y) (hx:ρ x = .pointer (some p)) (hy:ρ y=u) (hl:(storeVar T p u).run Tryz.prog w = .ok () w'):(execOp ρ o).run Tryz.prog w = .ok .skip w':=by
 unfold execOp
 simp only[ho,hx,hy,Instr.storeAt,Instr.sureAddr,Sem.run_bind,Sem.run_pure,Result.andThen_ok,hl]
theorem qhv_ {Ts T:TypeId} {size bytes:Nat} (hu:Tryz.prog.underlying Ts=some (.slice T)) (hinf:∃ i z,Tryz.prog.info? T=some i/\i.zero=some z/\i.size=size/\i.bytes=bytes/\z.cells.size=size) (h4:1001*bytes<=140737488355328) (h5:0<size)
  {x y:Operand} {v:Value} {n g:Nat} {xs:List Value} {cs:Array Value} (hcs:cs.size=size) (hone:∀ u ∈ cs.toList,u.oneCell'=true) (hx:ρ x=v) (hown:w.ownsRow 0 T size v n xs) (hy:ρ y = .slice (some ⟨g,0,none⟩) 1 1) (hg:Has w g cs T) (hn:n<=1000) :
  ∃ v' w',(∀o:Oper,o.op = .call { callee:=.builtin .append,args:=#[x,y],argTypes:=#[Ts,Ts] }->o.type=Ts->(execOp ρ o).run Tryz.prog w = .ok (.value v') w')/\w'.ownsRow 0 T size v' (n+1) (xs ++ cs.toList)/\w.grownBy w' v.ownBlock/\(v'.ownBlock=v.ownBlock\/v'.ownBlock=some w.heap.size):=by
 obtain ⟨i,z,hi,hz,h1,h2,h3⟩:=hinf
 obtain ⟨v',w',hr,g1,g2,_,g4⟩:=run_append_own_at (P:=Tryz.prog) w 0 Ts Ts T i z size bytes hu hi hz h1 h2 h3 h5 v n xs hown ⟨g,0,none⟩ 1 1 cs.toList (by simp[hcs]) (fun j u hj=>by
  rw[Addr.add_lit,Nat.zero_add,hg.cell j,<-Array.getElem?_toList]
  exact hj) hone (by unfold maxLen;omega) (Nat.le_trans (Nat.mul_le_mul_right _ (by omega)) h4) (Nat.zero_le _)
 refine ⟨v',w',fun o ho hty=>?_,g1,g2,g4⟩
 unfold execOp
 simp only[ho,hty,resolve,invoke,builtin,Sem.run_bind,Sem.run_pure,Result.andThen_ok,List.map_toArray,List.map_cons,List.map_nil,hx,hy,hr]
end
theorem qyy_ {w:World} {base:Nat} {T:TypeId} {size:Nat} {v:Value} {n:Nat} {xs:List Value} (h:w.ownsRow base T size v n xs) (hn:0<n):∃ g c,v = .slice (some ⟨g,0,none⟩) n c:=by
 rcases h.2 with ⟨_,h0⟩|⟨g,c,cur,rfl,_⟩
 ·omega
 ·exact ⟨g,c,rfl⟩
structure ApI (kb ka ks sb sa B:Nat) (T TA:TypeId) (size:Nat) (E:Array Value->Prop) (v:Value) (n:Nat) (xs:List Value) (b:Nat) (A:Value->Array Value) (l:Array Bool) (a:Act) (w:World):Prop where
 bu:l.getD kb false=true->l.getD ka false=false->∃ g cs,E cs/\a.eval (.tmp sb) = .slice (some ⟨g,0,none⟩) 1 1/\Has w g cs T
 ro:l.getD ka false=false->w.ownsRow 0 T size v n xs
 ap:l.getD ka false=true->l.getD ks false=false->∃ v' cs,E cs/\a.eval (.tmp sa)=v'/\w.ownsRow 0 T size v' (n+1) (xs ++ cs.toList)/\(v'.ownBlock=v.ownBlock\/∃ g,v'.ownBlock=some g/\B<=g)
 ha:l.getD ks false=false->Has w b (A v) TA
 st:l.getD ks false=true->∃ v' cs,E cs/\Has w b (A v') TA/\w.ownsRow 0 T size v' (n+1) (xs ++ cs.toList)/\(v'.ownBlock=v.ownBlock\/∃ g,v'.ownBlock=some g/\B<=g)
section
variable {kb ka ks sb sa B:Nat} {T TA:TypeId} {size:Nat} {E:Array Value->Prop} {v:Value} {n:Nat} {xs:List Value} {b:Nat} {A:Value->Array Value} {l:Array Bool} {a:Act} {w w':World}
theorem ApI.zero (hl:∀ i,l.getD i false=false) (hr:w.ownsRow 0 T size v n xs) (hA:Has w b (A v) TA):ApI kb ka ks sb sa B T TA size E v n xs b A l a w :=
 ⟨fun h=>(by rw[hl] at h;cases h),fun _=>hr,fun h=>(by rw[hl] at h;cases h),fun _=>hA,fun h=>(by rw[hl] at h;cases h)⟩
theorem ApI.keep (h:ApI kb ka ks sb sa B T TA size E v n xs b A l a w) {i:Nat} (hi:i<l.size) (h1:i ≠ kb) (h2:i ≠ ka) (h3:i ≠ ks) (d:Option Tmp) (u:Value) (hd:d ≠ some sb) (hd2:d ≠ some sa):ApI kb ka ks sb sa B T TA size E v n xs b A (l.setIfInBounds i true) (a.put d u) w:=by
 obtain ⟨p1,p2,p3,p4,p5⟩:=h
 constructor <;> simp only[ql_ l i kb hi h1,ql_ l i ka hi h2,ql_ l i ks hi h3,Act.eval_put (a:=a) (v:=u) (fun d' hdd e=>hd (by rw[hdd];cases e;rfl):∀ d',d=some d'->(Operand.tmp sb) = .tmp d'->False),Act.eval_put (a:=a) (v:=u) (fun d' hdd e=>hd2 (by rw[hdd];cases e;rfl):∀ d',d=some d'->(Operand.tmp sa) = .tmp d'->False)] <;> assumption
theorem ApI.on (h:ApI kb ka ks sb sa B T TA size E v n xs b A l a w) (hb:Below w.heap.size w w'):ApI kb ka ks sb sa B T TA size E v n xs b A l a w':=by
 have k:=Kp.of (F:=fun _=>False) hb
 refine ⟨fun h1 h2=>?_,fun h1=>kp_row (h.ro h1) k (fun _ _ h=>h),fun h1 h2=>?_,fun h1=>k.has (h.ha h1) (fun h=>h),fun h1=>?_⟩
 ·obtain ⟨g,cs,e1,e2,e3⟩:=h.bu h1 h2
  exact ⟨g,cs,e1,e2,k.has e3 (fun h=>h)⟩
 ·obtain ⟨v',cs,e1,e2,e3,e4⟩:=h.ap h1 h2
  exact ⟨v',cs,e1,e2,kp_row e3 k (fun _ _ h=>h),e4⟩
 ·obtain ⟨v',cs,e1,e2,e3,e4⟩:=h.st h1
  exact ⟨v',cs,e1,k.has e2 (fun h=>h),kp_row e3 k (fun _ _ h=>h),e4⟩
theorem ApI.built (h:ApI kb ka ks sb sa B T TA size E v n xs b A l a w) (hi:kb<l.size) (ka0:(l.setIfInBounds kb true).getD ka false=false) (ks0:(l.setIfInBounds kb true).getD ks false=false) (h1:kb ≠ ka) (h2:kb ≠ ks) (hs:sb<a.tmps.size) {cs:Array Value} (hE:E cs) :
  ApI kb ka ks sb sa B T TA size E v n xs b A (l.setIfInBounds kb true) (a.put (some sb) (.slice (some ⟨w.heap.size,0,none⟩) 1 1)) (w.alloc (.cells cs T)):=by
 have hb:Below w.heap.size w (w.alloc (.cells cs T)):=(Below.refl _ _).alloc (Nat.le_refl _) _
 have k:=Kp.of (F:=fun _=>False) hb
 exact ⟨fun _ _=>⟨_,cs,hE,qbu_ a sb _ hs,Has.new _ _⟩,fun _=>kp_row (h.ro (by rw[<-ql_ l kb ka hi h1];exact ka0)) k (fun _ _ h=>h),fun h=>(by rw[ka0] at h;cases h),fun _=>k.has (h.ha (by rw[<-ql_ l kb ks hi h2];exact ks0)) (fun h=>h),fun h=>(by rw[ks0] at h;cases h)⟩
theorem ApI.appended (h:ApI kb ka ks sb sa B T TA size E v n xs b A l a w) (hi:ka<l.size) (ks0:(l.setIfInBounds ka true).getD ks false=false) (h2:ka ≠ ks) (hs:sa<a.tmps.size) {cs:Array Value} (hE:E cs) {v':Value} (g1:w'.ownsRow 0 T size v' (n+1) (xs ++ cs.toList)) (g2:w.grownBy w' v.ownBlock) (g3:v'.ownBlock=v.ownBlock\/v'.ownBlock=some w.heap.size) (hB:B<=w.heap.size) (hb:v.ownBlock ≠ some b) :
  ApI kb ka ks sb sa B T TA size E v n xs b A (l.setIfInBounds ka true) (a.put (some sa) v') w':=by
 have ea:(l.setIfInBounds ka true).getD ka false=true:=by rw[qq_ _ _ _ hi,if_pos rfl]
 have hA:=h.ha (by rw[<-ql_ l ka ks hi h2];exact ks0)
 exact ⟨fun _ h=>(by rw[ea] at h;cases h),fun h=>(by rw[ea] at h;cases h),fun _ _=>⟨v',cs,hE,qbu_ a sa _ hs,g1,g3.elim .inl (fun g=>.inr ⟨_,g,hB⟩)⟩,fun _=>(g2.block b (Has.lt hA) (fun e=>hb e.symm)).trans hA,fun h=>(by rw[ks0] at h;cases h)⟩
theorem ApI.stored (hi:ks<l.size) (h2:ks ≠ ka) (hka:l.getD ka false=true) {cs:Array Value} (hE:E cs) {v':Value} (hA:Has w' b (A v') TA) (g1:w'.ownsRow 0 T size v' (n+1) (xs ++ cs.toList)) (g3:v'.ownBlock=v.ownBlock\/∃ g,v'.ownBlock=some g/\B<=g) :
  ApI kb ka ks sb sa B T TA size E v n xs b A (l.setIfInBounds ks true) (a.put none undef) w':=by
 have ea:(l.setIfInBounds ks true).getD ka false=true:=by rw[ql_ l ks ka hi h2];exact hka
 have es:(l.setIfInBounds ks true).getD ks false=true:=by rw[qq_ _ _ _ hi,if_pos rfl]
 exact ⟨fun _ h=>(by rw[ea] at h;cases h),fun h=>(by rw[ea] at h;cases h),fun _ h=>(by rw[es] at h;cases h),fun h=>(by rw[es] at h;cases h),fun _=>⟨v',cs,hE,hA,g1,g3⟩⟩
end
end Go.Proofs.YtbgjiplfaolpjaaGreatDoor.An
namespace Go.Proofs.YtbgjiplfaolpjaaGreatDoor.An
open Go.RowKit Mem Sc NN.Rg2
open Ar (Ent Ru entZ Ok)
end Go.Proofs.YtbgjiplfaolpjaaGreatDoor.An
namespace Go.Proofs.YtbgjiplfaolpjaaGreatDoor.An
open Go.RowKit Mem Sc
open Ar (Ent Ru entZ Ok)
end Go.Proofs.YtbgjiplfaolpjaaGreatDoor.An
namespace Go.Proofs.YtbgjiplfaolpjaaGreatDoor.An
open Go.RowKit Mem Sc NN.Rg2
open Ar (Ent Ru entZ Ok)
section
variable {ρ:Operand->Value} {o:Oper} {w:World}
theorem efield2 (w:World) (g:Nat):(Instr.fieldAt 81 (.pointer (some ⟨g,0,none⟩)) 2).run Tryz.prog w = .ok (.pointer (some ⟨g,100,none⟩)) w:=by kernel_rfl
theorem efield3 (w:World) (g:Nat):(Instr.fieldAt 81 (.pointer (some ⟨g,0,none⟩)) 3).run Tryz.prog w = .ok (.pointer (some ⟨g,101,none⟩)) w:=by kernel_rfl
end
end Go.Proofs.YtbgjiplfaolpjaaGreatDoor.An
namespace Go.Proofs.YtbgjiplfaolpjaaGreatDoor.An
open Go.RowKit Mem Sc
open Ar (Ent Ru entZ Ok)
end Go.Proofs.YtbgjiplfaolpjaaGreatDoor.An
namespace Go.Proofs.YtbgjiplfaolpjaaGreatDoor.An
open Go.RowKit Mem Sc
open Ar (Ent Ru entZ Ok Lp)
def trA (ab:Nat) (lv:Value):Array Value:=#[.pointer (some ⟨ab,0,none⟩),lv]
def TrS (w:World) (F:Nat->Prop) (b:Nat) (r:Ru) (M:List Ent) (ls:List Int):Prop :=
 (∀i,F i->i<w.heap.size)/\∃ Fa ab lv,Has w b (trA ab lv) 74/\ArS w Fa ab r M/\w.ownsRow 0 3 1 lv ls.length (ls.map (Value.int .i64))/\Lp M ls/\F b/\(∀i,Fa i->F i)/\(∀i,lv.ownBlock=some i->F i)/\¬Fa b/\∀ i,lv.ownBlock=some i->¬Fa i
section
variable {w w':World} {F G:Nat->Prop} {b:Nat} {r:Ru} {M:List Ent} {ls:List Int}
theorem TrS.on (h:TrS w F b r M ls) (k:Kp G w w') (hG:∀ i,F i->¬G i):TrS w' F b r M ls:=by
 obtain ⟨hl,Fa,ab,lv,h1,h2,h3,h4,h5,h6,h7,h8,h9⟩:=h
 exact ⟨fun i hi=>Nat.lt_of_lt_of_le (hl i hi) k.size,Fa,ab,lv,k.has h1 (hG b h5),h2.on k fun i hi=>hG i (h6 i hi),kp_row h3 k fun i hi=>hG i (h7 i hi),h4,h5,h6,h7,h8,h9⟩
theorem TrS.below (h:TrS w F b r M ls) (hb:Below w.heap.size w w'):TrS w' F b r M ls:=h.on (G:=fun _=>False) (Kp.of hb) fun _ _ hf=>hf
theorem TrS.wide (h:TrS w F b r M ls) (hF:∀ i,F i->G i) (hG:∀ i,G i->i<w.heap.size):TrS w G b r M ls:=by
 obtain ⟨_,Fa,ab,lv,h1,h2,h3,h4,h5,h6,h7,h8,h9⟩:=h
 exact ⟨hG,Fa,ab,lv,h1,h2,h3,h4,hF b h5,fun i hi=>hF i (h6 i hi),fun i hi=>hF i (h7 i hi),h8,h9⟩
end
end Go.Proofs.YtbgjiplfaolpjaaGreatDoor.An
namespace Go.Proofs.YtbgjiplfaolpjaaGreatDoor.An
open Go.RowKit Mem Sc
open Ar (Ent Ru entZ Ok)
end Go.Proofs.YtbgjiplfaolpjaaGreatDoor.An
namespace Go.Proofs.YtbgjiplfaolpjaaGreatDoor.An
open Go.RowKit Mem Sc NN.Rg2
open Ar (Ent Ru entZ Ok)
section
variable {ops:Array Oper} {rest:List Oper} {o:Oper} {a:Act} {w:World} {Q:Exit->Act->World->Prop}
end
section
variable {C:World->Prop} {a:Act} {o:Oper} {K:Act->Prop}
end
end Go.Proofs.YtbgjiplfaolpjaaGreatDoor.An
namespace Go.Proofs.YtbgjiplfaolpjaaGreatDoor.An
open Go.RowKit Mem Sc
open Ar (Ent Ru entZ Ok Lp hgt clr)
set_option maxRecDepth 100000
theorem qyz_ (m:Nat) (hm:m<=9223372036854775807):∃ k:Int,IntKind.i64.wrap ((m:Int) - 1)=k/\bits .and .i64 (m:Int) k=((clr m:Nat):Int):=by
 refine ⟨_,rfl,?_⟩
 by_cases h0:m=0
 ·subst h0;decide
 ·have e:IntKind.i64.wrap ((m:Int) - 1)=((m - 1:Nat):Int):=by rw[IntKind.wrap_i64];omega
  rw[e,NN.andI _ _ (by omega) (by omega)]
  rfl
theorem wl_at (m:Nat) (hm:m<=9223372036854775807) (w:World):Ca_ 66 #[.int .i64 (m:Int)] w (.int .i64 ((clr m:Nat):Int)):=by
 obtain ⟨k,h1,h2⟩:=qyz_ m hm
 obtain ⟨c,hc⟩:∃ c:Int,c=((clr m:Nat):Int):=⟨_,rfl⟩
 rw[<-hc] at h2 |-
 clear hc hm
 obtain ⟨mi,hm⟩:∃ mi:Int,mi=(m:Int):=⟨_,rfl⟩
 rw[<-hm] at h1 h2 |-
 clear hm
 have hB:=Below.refl w.heap.size w
 go_enter Tryz.func66,Tryz.ntmps66
 go_wp2_with fail
 go_ret
 exact ⟨rfl,hB⟩
theorem qjg_ (h:Int) (g1 g2:Bool) (q k c c2 c3:Int) (h1:decide (h<2)=g1) (hq:Int.tmod h 2=q) (h2:(q==0)=g2) (h3:IntKind.i64.wrap (h - 1)=k) (h4:IntKind.i64.wrap (c2+1)=c3) (w:World)
  (K1:Hid (∀w',g1=false->g2=true->Calls Tryz.prog 66 #[.int .i64 h] w' fun e w''=>e = .returned (.int .i64 c)/\Below w'.heap.size w' w''))
  (K2:Hid (∀w',g1=false->g2=false->Calls Tryz.prog 66 #[.int .i64 k] w' fun e w''=>e = .returned (.int .i64 c)/\Below w'.heap.size w' w''))
  (K3:Hid (∀w',g1=false->g2=false->Calls Tryz.prog 66 #[.int .i64 c] w' fun e w''=>e = .returned (.int .i64 c2)/\Below w'.heap.size w' w'')) :
  Ca_ 32 #[.int .i64 h] w (.int .i64 (if g1 then 0 else if g2 then c else c3)):=by
 have hB:=Below.refl w.heap.size w
 cases g1
 ·cases g2
  ·go_enter Tryz.func32,Tryz.ntmps32
   go_wp2_with fail
   refine (K2.out _ (by simp) (by simp)).mono ?_
   rintro e v1 ⟨rfl,hb⟩
   replace hB:=tb_ hB hb
   clear hb
   go_wp2_with fail
   refine (K3.out _ (by simp) (by simp)).mono ?_
   rintro e v2 ⟨rfl,hb⟩
   replace hB:=tb_ hB hb
   clear hb
   go_wp2_with fail
   go_ret
   exact ⟨rfl,hB⟩
  ·go_enter Tryz.func32,Tryz.ntmps32
   go_wp2_with fail
   refine (K1.out _ (by simp) (by simp)).mono ?_
   rintro e v1 ⟨rfl,hb⟩
   replace hB:=tb_ hB hb
   clear hb
   go_wp2_with fail
   go_ret
   exact ⟨rfl,hB⟩
 ·go_enter Tryz.func32,Tryz.ntmps32
  go_wp2_with fail
  go_ret
  exact ⟨rfl,hB⟩
theorem qko_ (h:Int) (hh:h<=9223372036854775807) (h0:-9223372036854775808<=h) (w:World):Ca_ 32 #[.int .i64 h] w (.int .i64 ((hgt h.toNat:Nat):Int)):=by
 by_cases hs:h<2
 ·have:=qjg_ h true (Int.tmod h 2==0) _ _ 0 0 _ (decide_eq_true hs) rfl rfl rfl rfl w (h_ fun _ h=>by cases h) (h_ fun _ h=>by cases h) (h_ fun _ h=>by cases h)
  rw[Ar.qkh_ (by omega)]
  exact this
 ·obtain ⟨n,rfl⟩:=Int.eq_ofNat_of_zero_le (by omega:0<=h)
  have hq:Int.tmod (n:Int) 2=((n % 2:Nat):Int):=by rw[Int.tmod_eq_emod_of_nonneg (by omega)];omega
  rw[Int.toNat_natCast]
  by_cases he:n % 2=0
  ·have:=qjg_ (n:Int) false true _ _ ((clr n:Nat):Int) 0 _ (decide_eq_false hs) hq (by rw[he];rfl) rfl rfl w (h_ fun w' _ _=>wl_at n (by omega) w') (h_ fun _ _ h=>by cases h) (h_ fun _ _ h=>by cases h)
   rw[Ar.qpb_ (by omega) he]
   exact this
  ·have e1:IntKind.i64.wrap ((n:Int) - 1)=((n - 1:Nat):Int):=by rw[IntKind.wrap_i64];omega
   have hc1:=Ar.clr_le (n - 1)
   have hc2:=Ar.clr_le (clr (n - 1))
   have e2:IntKind.i64.wrap (((clr (clr (n - 1)):Nat):Int)+1)=((1+clr (clr (n - 1)):Nat):Int):=by rw[IntKind.wrap_i64];omega
   have:=qjg_ (n:Int) false false _ _ ((clr (n - 1):Nat):Int) ((clr (clr (n - 1)):Nat):Int) _ (decide_eq_false hs) hq (by rw[show n % 2=1 by omega];rfl) e1 e2 w (h_ fun _ _ h=>by cases h) (h_ fun w' _ _=>wl_at (n - 1) (by omega) w') (h_ fun w' _ _=>wl_at (clr (n - 1)) (by omega) w')
   rw[Ar.quw_ (by omega) (by omega)]
   exact this
theorem qza_ (w:World):Ca_ 28 #[.pointer none] w (.pointer none):=by
 have hB:=Below.refl w.heap.size w
 go_enter Tryz.func28,Tryz.ntmps28
 go_wp2_with fail
 go_ret
 exact ⟨rfl,hB⟩
theorem held_w (b ab:Nat) (w:World) (hv:w.cell? ⟨b,0,none⟩=some (.pointer (some ⟨ab,0,none⟩))):Ca_ 28 #[.pointer (some ⟨b,0,none⟩)] w (.pointer (some ⟨ab,0,none⟩)):=by
 have hB:=Below.refl w.heap.size w
 go_enter Tryz.func28,Tryz.ntmps28
 go_wp2_with fail
 go_ret
 exact ⟨rfl,hB⟩
def HeldIs (w:World) (tp ap:Value):Prop:=∀ w',Below w.heap.size w w'->Calls Tryz.prog 28 #[tp] w' fun e w''=>e = .returned ap/\Below w'.heap.size w' w''
theorem qhw_ (tp ap:Value) (x y:Int) (g:Bool) (w:World) (KH:Hid (HeldIs w tp ap)) (KL:HK_ w 46 #[ap,.int .i64 x,.int .i64 y] (.bool g)) :
  Ca_ 22 #[tp,.int .i64 x,.int .i64 y] w (.bool g):=by
 have hB:=Below.refl w.heap.size w
 go_enter Tryz.func22,Tryz.ntmps22
 go_wp2_with fail
 refine (KH.out _ hB).mono ?_
 rintro e v1 ⟨rfl,hb⟩
 replace hB:=tb_ hB hb
 clear hb
 go_wp2_with fail
 refine (KL.out _ hB).mono ?_
 rintro e v2 ⟨rfl,hb⟩
 replace hB:=tb_ hB hb
 clear hb
 go_wp2_with fail
 go_ret
 exact ⟨rfl,hB⟩
theorem tat_w (tp ap:Value) (k:Int) (e:En) (he:e.ok) (g:Bool) (w:World) (KH:Hid (HeldIs w tp ap)) (KL:Hid (∀w',Below w.heap.size w w'->Calls Tryz.prog 65 #[ap,.int .i64 k] w' fun x w''=>x = .returned (.tuple #[.agg (enA e),.bool g])/\Below w'.heap.size w' w'')) :
  Calls Tryz.prog 30 #[tp,.int .i64 k] w fun x w'=>x = .returned (.tuple #[.agg (enA e),.bool g])/\Below w.heap.size w w':=by
 have z0:=qad_ enZ_ok
 have z1:=qad_ he
 go_enter Tryz.func30,Tryz.ntmps30
 go_upto_region 1 with fail
 generalize hw0:World.alloc _ _=v0
 have hB:Below w.heap.size w v0:=bl_ hw0
 have hR:EnAt v0 w.heap.size enZ:=by rw[<-hw0];exact qcr_ w
 clear hw0
 obtain ⟨bR,hbR⟩:∃ x,x=w.heap.size:=⟨_,rfl⟩
 rw[<-hbR] at hR |-
 have HBR:Hid (w.heap.size<=bR):=h_ (by omega)
 clear hbR
 go_wp2_with fail
 refine (KH.out _ hB).mono ?_
 rintro x v1 ⟨rfl,hb⟩
 replace hR:=hR.on hb
 replace hB:=tb_ hB hb
 clear hb
 go_wp2_with fail
 refine (KL.out _ hB).mono ?_
 rintro x v2 ⟨rfl,hb⟩
 replace hR:=hR.on hb
 replace hB:=tb_ hB hb
 clear hb
 go_wp2_with (with_reducible refine qbo_ rfl _ _ rfl _ _ e rfl rfl rfl z1 hR z0 ?_)
 refine bodyPost_ret (qdp_ Tryz.results30 _ _ _ rfl rfl (Has.row hR _) z1) rfl ⟨rfl,below_setRow hB HBR.out _⟩
section
variable {w:World} {F:Nat->Prop} {b:Nat} {r:Ru} {M:List Ent} {ls:List Int}
theorem HeldIs.nil (w:World):HeldIs w (.pointer none) (.pointer none):=fun w' _=>qza_ w'
theorem TrS.parts (h:TrS w F b r M ls):∃ Fa ab,HeldIs w (.pointer (some ⟨b,0,none⟩)) (.pointer (some ⟨ab,0,none⟩))/\ArS w Fa ab r M:=by
 obtain ⟨hl,Fa,ab,lv,h1,h2,h3,h4,h5,h6,h7,h8,h9⟩:=h
 exact ⟨Fa,ab,fun w' hb=>held_w b ab w' ((hb.cell (p:=⟨b,0,none⟩) (Has.lt h1)).trans (Has.cell h1 0)),h2⟩
theorem tat_at (h:TrS w F b r M ls) {i:Nat} {e:Ent} (he:M[i]?=some e) (k:Int) (hk:k=(i:Nat)):Calls Tryz.prog 30 #[.pointer (some ⟨b,0,none⟩),.int .i64 k] w fun x w'=>x = .returned (.tuple #[.agg (enA (enOf r e)),.bool true])/\Below w.heap.size w w':=by
 obtain ⟨Fa,ab,k1,k2⟩:=h.parts
 exact tat_w _ _ _ _ (qet_ k2 he) _ w (h_ k1) (h_ fun w' hb=>at_at (k2.below hb) he k hk)
theorem qpy_ (h:TrS w F b r M ls) (k:Int) (hk:¬(0<=k/\k<(M.length:Nat))):Calls Tryz.prog 30 #[.pointer (some ⟨b,0,none⟩),.int .i64 k] w fun x w'=>x = .returned (.tuple #[.agg (enA enN),.bool false])/\Below w.heap.size w w':=by
 obtain ⟨Fa,ab,k1,k2⟩:=h.parts
 exact tat_w _ _ _ _ enN_ok _ w (h_ k1) (h_ fun w' hb=>at_not (k2.below hb) k hk)
end
theorem tat_nil (k:Int) (w:World):Calls Tryz.prog 30 #[.pointer none,.int .i64 k] w fun x w'=>x = .returned (.tuple #[.agg (enA enN),.bool false])/\Below w.heap.size w w':=tat_w _ _ _ _ enN_ok _ w (h_ (HeldIs.nil w)) (h_ fun w' _=>at_nil k w')
end Go.Proofs.YtbgjiplfaolpjaaGreatDoor.An
namespace Go.Proofs.YtbgjiplfaolpjaaGreatDoor.An
open Go.RowKit Mem Sc
open Ar (Ent Ru entZ Ok isP)
set_option maxRecDepth 100000
theorem qdy_ {C:World->Prop} {a:Act} {o:Oper} {K:Act->Prop} (x:Operand) (ho:o.op = .load 26 x) (g off:Nat) (hx:a.eval x = .pointer (some ⟨g,off,none⟩)) (z:Nat) (hC:∀ w',C w'->w'.rangeAt g off (NN.numC z).toList)
  (hk:K (a.put o.dst (.agg (NN.numC z)))):o.quiet Tryz.prog a C K :=
 ⟨_,fun w' hw'=>by
  unfold Oper.quietAt
  have this:(execOp a.eval o).run Tryz.prog w' = .ok (.value (.agg (NN.numC z))) w':=by
   unfold execOp
   simp only[ho,hx,Sem.run_bind,run_loadAt_mid w' g off 26 (NN.numC z).toList _ (hC w' hw') Tryz.underlying26 rfl (NN.infoNum.trans (by rw[Array.length_toList,NN.qbe_])),Result.andThen_ok]
   rfl
  rw[this]
  exact ⟨rfl,rfl⟩,hk⟩
theorem qhx_ (p:Value) (x y:Int) (w:World) (KX:HK_ w 79 #[p,.int .i64 x] (.bool false)) :
  Ca_ 46 #[p,.int .i64 x,.int .i64 y] w (.bool false):=by
 have hB:=Below.refl w.heap.size w
 go_enter Tryz.func46,Tryz.ntmps46
 go_wp2_with fail
 refine (KX.out _ hB).mono ?_
 rintro e v1 ⟨rfl,hb⟩
 replace hB:=tb_ hB hb
 go_wp2_with fail
 go_ret
 exact ⟨rfl,hB⟩
theorem qmg_ (p:Value) (x y:Int) (w:World) (KX:HK_ w 79 #[p,.int .i64 x] (.bool true))
  (KY:HK_ w 79 #[p,.int .i64 y] (.bool false)) :
  Ca_ 46 #[p,.int .i64 x,.int .i64 y] w (.bool true):=by
 have hB:=Below.refl w.heap.size w
 go_enter Tryz.func46,Tryz.ntmps46
 go_wp2_with fail
 refine (KX.out _ hB).mono ?_
 rintro e v1 ⟨rfl,hb⟩
 replace hB:=tb_ hB hb
 clear hb
 go_wp2_with fail
 refine (KY.out _ hB).mono ?_
 rintro e v2 ⟨rfl,hb⟩
 replace hB:=tb_ hB hb
 go_wp2_with fail
 go_ret
 exact ⟨rfl,hB⟩
def hvb (a b k m:Nat):Bool:=decide (0<NN.Nm.cmp a b) || (NN.Nm.cmp a b==0 && decide (k<m))
theorem qpz_ (b g n c k m:Nat) (e d:En) (he:e.ok) (hd:d.ok) (hk:k<n) (hm:m<n) (z:Int) (g1 g2:Bool) (hz:NN.Nm.cmp e.wk d.wk=z) (h1:decide (0<z)=g1) (h2:(z==0)=g2) (hw1:e.wk<NN.Nm.big) (hw2:d.wk<NN.Nm.big) (w:World) (hv:w.cell? ⟨b,84,none⟩=some (.slice (some ⟨g,0,none⟩) n c)) (hr1:w.rangeAt g (k*144) (enC e)) (hr2:w.rangeAt g (m*144) (enC d))
  (KX:HK_ w 79 #[.pointer (some ⟨b,0,none⟩),.int .i64 (k:Int)] (.bool true))
  (KY:HK_ w 79 #[.pointer (some ⟨b,0,none⟩),.int .i64 (m:Int)] (.bool true)) :
  Ca_ 46 #[.pointer (some ⟨b,0,none⟩),.int .i64 (k:Int),.int .i64 (m:Int)] w (.bool (g1 || (g2 && decide (k<m)))):=by
 have hB:=Below.refl w.heap.size w
 have KC:HG_ 80 #[.agg (NN.numC e.wk),.agg (NN.numC d.wk)] (.int .i64 z):=h_ fun w'=>by rw[<-hz];exact NN.compare _ _ hw1 hw2 w'
 have H1:=h_ (qiy_ he hr1)
 have H2:=h_ (qiy_ hd hr2)
 have HV:=h_ hv
 clear hz hw1 hw2 hr1 hr2 hv
 generalize e.wk=ew at *
 generalize d.wk=dw at *
 go_enter Tryz.func46,Tryz.ntmps46
 go_wp2_with fail
 refine (KX.out _ hB).mono ?_
 rintro e v1 ⟨rfl,hb⟩
 replace hB:=tb_ hB hb
 clear hb
 go_wp2_with fail
 refine (KY.out _ hB).mono ?_
 rintro e v2 ⟨rfl,hb⟩
 replace hB:=tb_ hB hb
 clear hb KX KY
 have hv2:=(hB.cell (p:=⟨b,84,none⟩) (block_lt_of_cell HV.out)).trans HV.out
 have q84:∀ d os,(Sort.grow (redrawn v2 d) os).cell? ⟨b,84,none⟩=some (.slice (some ⟨g,0,none⟩) n c):=cell_regrown hv2
 have q1:∀ w',(∃r:Regrown,w'=Sort.grow (redrawn v2 r.d) r.os)->w'.rangeAt g (k*144+102) (NN.numC ew).toList:=fun w' hw'=>qar_ H1.out (hB.trans ((qk_ w' hw').mono hB.size)) (by rw[Array.length_toList,NN.qbe_];decide)
 have q2:∀ w',(∃r:Regrown,w'=Sort.grow (redrawn v2 r.d) r.os)->w'.rangeAt g (m*144+102) (NN.numC dw).toList:=fun w' hw'=>qar_ H2.out (hB.trans ((qk_ w' hw').mono hB.size)) (by rw[Array.length_toList,NN.qbe_];decide)
 clear hv2 H1 H2 HV
 go_wp2_with fail
 refine wp_region_quiet_below (by kernel_rfl) (by kernel_rfl) ?_
 repeat (first
  | (go_big_quiet_want;(with_reducible first|refine qdy_ _ rfl g (k*144+102) rfl ew q1 ?_|refine qdy_ _ rfl g (m*144+102) rfl dw q2 ?_);(simp only[Act.put,List.setIfInBounds_toArray,List.set_cons_zero,List.set_cons_succ]);go_big_quiet_on)
  | go_big_quiet_step ((go_at_call 80;exact Calls.regrown_of (KC.out _))))
 refine wpQuiet_nil ?_
 intro v3 hw'
 have hb:=qk_ v3 hw'
 replace hB:=tb_ hB hb
 clear hw' hb q84 q1 q2 KC
 by_cases hkm:k<m
 ·cases g1 <;> cases g2
  all_goals
   go_wp2_with fail
   go_ret
   exact ⟨by simp[hkm],hB⟩
 ·cases g1 <;> cases g2
  all_goals
   go_wp2_with fail
   go_ret
   exact ⟨by simp[hkm],hB⟩
def HvI (r:Ru) (M:List Ent) (x y:Int) (g:Bool):Prop:=(¬isP M x/\g=false)\/(isP M x/\¬isP M y/\g=true)\/∃ (n m:Nat) (e d:Ent),x=(n:Int)/\y=(m:Int)/\M[n]?=some e/\M[m]?=some d/\g=hvb (wkOf r e.hs) (wkOf r d.hs) n m
theorem HvI.ex (r:Ru) (M:List Ent) (x y:Int):∃ g,HvI r M x y g:=by
 by_cases hx:isP M x
 ·by_cases hy:isP M y
  ·obtain ⟨n,e,rfl,he⟩:=hx.is
   obtain ⟨m,d,rfl,hd⟩:=hy.is
   exact ⟨_,.inr (.inr ⟨n,m,e,d,rfl,rfl,he,hd,rfl⟩)⟩
  ·exact ⟨true,.inr (.inl ⟨hx,hy,rfl⟩)⟩
 ·exact ⟨false,.inl ⟨hx,rfl⟩⟩
theorem qqa_ {w:World} {F:Nat->Prop} {b:Nat} {r:Ru} {M:List Ent} (h:ArS w F b r M) (x y:Int) (g:Bool) (hg:HvI r M x y g) :
  Ca_ 46 #[.pointer (some ⟨b,0,none⟩),.int .i64 x,.int .i64 y] w (.bool g):=by
 have hn:∀ k,¬isP M k->HK_ w 79 #[.pointer (some ⟨b,0,none⟩),.int .i64 k] (.bool false):=fun k hk=>h_ fun w' hb=>has_at (h.below hb) k false (by
  rw[Bool.and_eq_false_iff]
  by_cases h0:0<=k
  ·exact .inr (decide_eq_false fun h1=>hk ⟨h0,h1⟩)
  ·exact .inl (decide_eq_false h0))
 have hp:∀ k,isP M k->HK_ w 79 #[.pointer (some ⟨b,0,none⟩),.int .i64 k] (.bool true):=fun k hk=>h_ fun w' hb=>has_at (h.below hb) k true (by rw[Bool.and_eq_true];exact ⟨decide_eq_true hk.1,decide_eq_true hk.2⟩)
 rcases hg with ⟨h1,rfl⟩|⟨h1,h2,rfl⟩|⟨n,m,e,d,rfl,rfl,he,hd,rfl⟩
 ·exact qhx_ _ x y w (hn x h1)
 ·exact qmg_ _ x y w (hp x h1) (hn y h2)
 ·have k1:=hp _ (Ar.isP_of he)
  have k2:=hp _ (Ar.isP_of hd)
  have o1:=qet_ h he
  have o2:=qet_ h hd
  have l1:=(List.getElem?_eq_some_iff.1 he).1
  have l2:=(List.getElem?_eq_some_iff.1 hd).1
  obtain ⟨_,I,p,t,v,mb,L,a1,a2,a3,a4⟩:=h
  obtain ⟨s1,hs1⟩:=a3.at he
  obtain ⟨s2,hs2⟩:=a3.at hd
  obtain ⟨g1,c1,rfl,hg1,hr1⟩:=a1.range hs1
  obtain ⟨g2,c2,e2,hg2,hr2⟩:=a1.range hs2
  cases e2
  exact qpz_ b g1 L.length c1 n m (enOf r e) (enOf r d) o1 o2 (by rw[a3.length];exact l1) (by rw[a3.length];exact l2) _ _ _ rfl rfl rfl (qpm_ r e.hs) (qpm_ r d.hs) w (ar84 a1.has a1.pok) (qgj_ hr1) (qgj_ hr2) k1 k2
section
variable {w:World} {F:Nat->Prop} {b:Nat} {r:Ru} {M:List Ent} {ls:List Int}
theorem qfr_ (h:TrS w F b r M ls) (x y:Int) (g:Bool) (hg:HvI r M x y g):Ca_ 22 #[.pointer (some ⟨b,0,none⟩),.int .i64 x,.int .i64 y] w (.bool g):=by
 obtain ⟨Fa,ab,k1,k2⟩:=h.parts
 exact qhw_ _ _ x y g w (h_ k1) (h_ fun w' hb=>qqa_ (k2.below hb) x y g hg)
end
theorem qjh_ (x y:Int) (w:World):Ca_ 46 #[.pointer none,.int .i64 x,.int .i64 y] w (.bool false):=qhx_ _ x y w (h_ fun w' _=>quz_ x w')
theorem qji_ (x y:Int) (w:World):Ca_ 22 #[.pointer none,.int .i64 x,.int .i64 y] w (.bool false):=qhw_ _ _ x y false w (h_ (HeldIs.nil w)) (h_ fun w' _=>qjh_ x y w')
end Go.Proofs.YtbgjiplfaolpjaaGreatDoor.An
namespace Go.Proofs.YtbgjiplfaolpjaaGreatDoor.An
open Go.RowKit Mem Sc
open Ar (Ent Ru entZ Ok)
structure Ac where
 kind:Int
 h:Hd
 now:Int
 n:Int
def acC (c:Ac):List Value:=.int .i64 c.kind :: (hdC c.h ++ [.int .i64 c.now,.int .i64 c.n])
def acA (c:Ac):Array Value:=(acC c).toArray
def acZ:Ac:=⟨0,hdZ,0,0⟩
theorem qdg_ {c:Ac} (h:c.h.ok):(acC c).length=71:=by simp[acC,qj_ h]
theorem qdr_ {c:Ac} (h:c.h.ok):(acA c).size=71:=by show (acC c).toArray.size=71;rw[List.size_toArray];exact qdg_ h
theorem acC_one (c:Ac):∀ v ∈ acC c,v.oneCell'=true:=fun v hv=>by
 rcases List.mem_cons.1 hv with rfl|hv
 ·rfl
 ·rcases List.mem_append.1 hv with h|h
  ·exact qjo_ _ v h
  ·rcases List.mem_cons.1 h with rfl|h
   ·rfl
   ·obtain rfl:v = .int .i64 c.n:=by simpa using h
    rfl
theorem acinfo:(Tryz.prog.info? 46).map (·.size)=some 71:=by kernel_rfl
def AcAt (w:World) (k:Nat) (c:Ac):Prop:=Has w k (acA c) 46
def ActsAt (w:World) (a:Option Addr) (cs:List Ac):Prop :=
 0<cs.length->∃ ab ao,a=some ⟨ab,ao,none⟩/\ab<w.heap.size/\∀ i (hi:i<cs.length),cs[i].h.ok/\w.rangeAt ab (ao+i*71) (acC cs[i])
theorem qvd_ (c:Ac):0<(acC c).length:=by simp[acC]
section
variable {w w':World} {k:Nat} {c:Ac}
theorem ActsAt.below {a:Option Addr} {cs:List Ac} (h:ActsAt w a cs) (hb:Below w.heap.size w w'):ActsAt w' a cs:=fun h0=>by
 obtain ⟨ab,ao,ha,hlt,hc⟩:=h h0
 exact ⟨ab,ao,ha,Nat.lt_of_lt_of_le hlt hb.size,fun i hi=>⟨(hc i hi).1,qar_ (hc i hi).2 hb (qvd_ _)⟩⟩
theorem AcAt.on (h:AcAt w k c) (hb:Below w.heap.size w w'):AcAt w' k c:=qd_ hb h (Has.lt h)
theorem AcAt.kind (h:AcAt w k c):w.cell? ⟨k,0,none⟩=some (.int .i64 c.kind):=Has.cell h 0
theorem AcAt.head (h:AcAt w k c):w.rangeAt k 1 (hdC c.h):=by
 have:=qbm_ (A:=[.int .i64 c.kind]) (cs:=hdC c.h) (C:=[.int .i64 c.now,.int .i64 c.n]) (o:=1) (w:=w) (b:=k) (t:=46) h rfl
 exact this
theorem AcAt.now (h:AcAt w k c) (ho:c.h.ok):w.cell? ⟨k,69,none⟩=some (.int .i64 c.now):=by
 have:=qbm_ (A:=.int .i64 c.kind :: hdC c.h) (cs:=[.int .i64 c.now,.int .i64 c.n]) (C:=[]) (o:=69) (w:=w) (b:=k) (t:=46) (by rw[List.append_nil];exact h) (by simp[qj_ ho])
 exact this 0 _ rfl
theorem AcAt.num (h:AcAt w k c) (ho:c.h.ok):w.cell? ⟨k,70,none⟩=some (.int .i64 c.n):=by
 have:=qbm_ (A:=.int .i64 c.kind :: hdC c.h) (cs:=[.int .i64 c.now,.int .i64 c.n]) (C:=[]) (o:=69) (w:=w) (b:=k) (t:=46) (by rw[List.append_nil];exact h) (by simp[qj_ ho])
 exact this 1 _ rfl
theorem qkp_ (w:World):AcAt (w.alloc (.cells Tryz.zeroCells46 46)) w.heap.size acZ:=Has.new (acA acZ) _
variable {ops:Array Oper} {rest:List Oper} {o:Oper} {a:Act} {Q:Exit->Act->World->Prop}
theorem qcn_ (hgd:o.guard=none) (x:Operand) (ho:o.op = .load 46 x) (g off:Nat) (hx:a.eval x = .pointer (some ⟨g,off,none⟩)) (c:Ac) (hg:w.rangeAt g off (acC c)) (hs:(acC c).length=71)
  (hk:wpList Tryz.prog ops Q rest (a.put o.dst (.agg (acA c))) w):wpList Tryz.prog ops Q (o :: rest) a w :=
 wpList_load_mid hgd 46 x ho g off hx (acC c) _ hg Tryz.underlying46 rfl (acinfo.trans (by rw[hs])) hk
theorem qgl_ (hgd:o.guard=none) (x y:Operand) (ho:o.op = .store 46 x y) (g:Nat) (cz:Array Value) (c':Ac) (hx:a.eval x = .pointer (some ⟨g,0,none⟩)) (hy:a.eval y = .agg cz) (he:cz=acA c') (hs':(acA c').size=71) (hg:AcAt w g c) (hs:(acA c).size=71)
  (hk:wpList Tryz.prog ops Q rest (a.put o.dst undef) (w.setRow g (acA c'))):wpList Tryz.prog ops Q (o :: rest) a w:=by
 subst he
 exact wpList_store_row hgd 46 x y ho g (acA c') hx hy 46 (acA c) (Has.out hg) (acinfo.trans (by rw[hs'])) (by rw[hs,hs']) (all_oneCell_toArray (acC_one c')) hk
theorem qqb_ (w:World) (c:Ac):AcAt ((w.alloc (.cells Tryz.zeroCells46 46)).setRow w.heap.size (acA c)) w.heap.size c:=Has.row (qkp_ w) _
end
def negA (cs:List Ac):Bool:=cs.any (fun c=>decide (c.now<0))
end Go.Proofs.YtbgjiplfaolpjaaGreatDoor.An
namespace Go.Proofs.YtbgjiplfaolpjaaGreatDoor.An
open Go.RowKit Mem Sc
open Ar (Ent Ru entZ Ok)
def grtA (t:Tl) (cs:List Ac):Bool:=cs.any (fun c=>decide (c.now<0)) || decide (20<t.gn) || decide (20<t.cn) || decide (40<cs.length)
theorem qtn_ (p:NN.Pr) (t:Tl) (tt:p.tl=t.C) (cs:List Ac) (n:Nat) (a:Option Addr) (c:Nat) (hn:n=cs.length) (hl:n<=4611686018427387904) (gn cn:Nat) (eg:t.gn=gn) (ec:t.cn=cn) (g1 g2 g3 gr g:Bool) (h1:decide ((20:Int)<(gn:Int))=g1) (h2:decide ((20:Int)<(cn:Int))=g2) (h3:decide ((40:Int)<(n:Int))=g3) (hg:(negA cs || g1 || g2 || g3 || !gr)=g) (w:World) (KR:Hid (g1=false->g2=false->g3=false->∀ w',Below w.heap.size w w'->Calls Tryz.prog 24 #[.agg (NN.prA p)] w' fun e w''=>e = .returned (.bool gr)/\Below w'.heap.size w' w'')) (hp:p.ok) (hA:ActsAt w a cs) :
  Calls Tryz.prog 7 #[.agg (NN.prA p),.slice a n c] w fun r w'=>r = .returned (.bool g)/\Below w.heap.size w w':=by
 have HN:=h_ hn
 have HA:=h_ hA
 have HG:=h_ hg
 clear hn hA hg
 go_enter Tryz.func7,Tryz.ntmps7
 go_upto_region 1 with fail
 generalize hw0:World.alloc _ _=v0
 have hB:Below w.heap.size w v0:=bl_ hw0
 have hP:NN.PrAt v0 w.heap.size p:=by rw[<-hw0];exact NN.Has.new _ _
 clear hw0
 obtain ⟨bP,hbP⟩:∃ x,x=w.heap.size:=⟨_,rfl⟩
 rw[<-hbP] at hP |-
 clear hbP
 have H1:=h_ h1
 have H2:=h_ h2
 have H3:=h_ h3
 clear h1 h2 h3
 go_wp2_with fail
 go_loopw [9] (fun i wr=>∃ k:Nat,k<=n/\i = .int .i64 (k:Int)/\Hid (negA cs=negA (cs.drop k))/\NN.PrAt wr bP p/\Below w.heap.size w wr) (fun i _=>n - (intOf i).toNat)
 case atStart=>exact ⟨0,by omega,rfl,h_ rfl,hP,hB⟩
 case round=>
  clear hP hB
  obtain ⟨k,hk,rfl,HZ,hP,hB⟩:=hrel
  by_cases hlt:k<n
  ·obtain ⟨ab,ao,hae,habl,hc⟩:=(HA.out.below hB) (by rw[<-HN.out];omega)
   subst hae
   have hk2:k<cs.length:=by rw[<-HN.out];exact hlt
   have hd:cs.drop k=cs[k] :: cs.drop (k+1):=List.drop_eq_getElem_cons hk2
   obtain ⟨q0,q1⟩:=hc k hk2
   have hx:=HZ.out
   rw[hd] at hx
   clear hd HZ hc
   generalize cs[k]=y at *
   have HX:=h_ hx
   clear hx hk2
   have z1:=qdg_ q0
   have z2:=qdr_ q0
   have z0:=qdr_ (c:=acZ) hdZ_ok
   have hb2:Below wr.heap.size wr ((wr.alloc (.cells Tryz.zeroCells46 46)).setRow wr.heap.size (acA y)):=below_setRow ((Below.refl _ _).alloc (Nat.le_refl _) _) (Nat.le_refl _) _
   have hB2:=tb_ hB hb2
   have hP2:=NN.PrAt.on hP hb2
   have c0:=(qqb_ wr y).now q0
   have hnew:=qkp_ wr
   clear hB hb2 hP
   cases t1:decide (y.now<0)
   ·have HZ2:Hid (negA cs=negA (cs.drop (k+1))):=h_ (by
     have e:negA (y :: cs.drop (k+1))=(decide (y.now<0) || negA (cs.drop (k+1))):=rfl
     rw[HX.out,e,t1,Bool.false_or])
    clear HX
    obtain ⟨yn,hyn⟩:∃ yn,yn=y.now:=⟨_,rfl⟩
    rw[<-hyn] at c0 t1
    clear hyn
    go_wp2_with (with_reducible first|refine qcn_ rfl _ rfl ab (ao+k*71) rfl y q1 z1 ?_|refine qgl_ rfl _ _ rfl _ _ y rfl rfl rfl z2 hnew z0 ?_)
    go_roundw
    case rel=>exact ⟨k+1,by omega,by go_num,HZ2,hP2,hB2⟩
    case measure=>simp[intOf];omega
   ·have hgt:g=true:=by
     have e:negA (y :: cs.drop (k+1))=(decide (y.now<0) || negA (cs.drop (k+1))):=rfl
     rw[<-HG.out,HX.out,e,t1]
     simp
    subst hgt
    clear HX HG
    obtain ⟨yn,hyn⟩:∃ yn,yn=y.now:=⟨_,rfl⟩
    rw[<-hyn] at c0 t1
    clear hyn
    go_wp2_with (with_reducible first|refine qcn_ rfl _ rfl ab (ao+k*71) rfl y q1 z1 ?_|refine qgl_ rfl _ _ rfl _ _ y rfl rfl rfl z2 hnew z0 ?_)
    go_ret
    exact ⟨rfl,hB2⟩
  ·obtain rfl:k=n:=by omega
   have hg:(g1 || g2 || g3 || !gr)=g:=by
    have:=HG.out
    rw[HZ.out,HN.out,List.drop_length] at this
    exact this
   have h1:=H1.out
   have h2:=H2.out
   have h3:=H3.out
   clear HG HZ
   have c5:=qdn_ hP tt
   have c6:=qcl_ hP tt
   rw[eg] at c5
   rw[ec] at c6
   have hz:=NN.qam_ hp
   generalize t.ga=ga at *
   generalize t.gc=gc at *
   generalize t.ca=ca at *
   generalize t.cc=cc at *
   have HGG:=h_ hg
   clear eg ec hg H1 H2 H3
   cases g1
   ·cases g2
    ·cases g3
     ·go_wp2_with (with_reducible first|refine NN.qs_ rfl _ rfl _ rfl hP hz ?_|refine NN.qp_ (by with_unfolding_all rfl) _ rfl _ rfl hP hz ?_)
      refine (KR.out (by simp) (by simp) (by simp) _ hB).mono ?_
      rintro e v9 ⟨rfl,hb⟩
      replace hB:=tb_ hB hb
      clear hb
      cases gr
      all_goals
       go_wp2_with fail
       go_ret
       exact ⟨by rw[<-HGG.out];rfl,hB⟩
     ·go_wp2_with fail
      go_ret
      exact ⟨by rw[<-HGG.out];rfl,hB⟩
    ·go_wp2_with fail
     go_ret
     exact ⟨by rw[<-HGG.out];rfl,hB⟩
   ·go_wp2_with fail
    go_ret
    exact ⟨by rw[<-HGG.out];rfl,hB⟩
def grt15 (p:NN.Pr) (t:Tl) (gs:List Gt) (ks:List Ck) (cs:List Ac):Bool:=grtA t cs || !ruleP p t.g gs ks
theorem qqc_ (p:NN.Pr) (hp:p.ok) (t:Tl) (tt:p.tl=t.C) (ht:t.ok) (gs:List Gt) (ks:List Ck) (hgn:t.gn=gs.length) (hcn:t.cn=ks.length) (cs:List Ac) (n:Nat) (a:Option Addr) (c:Nat) (hn:n=cs.length) (hl:n<=4611686018427387904) (g:Bool) (hg:grt15 p t gs ks cs=g) (w:World) (hA:ActsAt w a cs) (hG:GatesAt w t.ga gs) (hC:ChecksAt w t.ca ks) :
  Calls Tryz.prog 7 #[.agg (NN.prA p),.slice a n c] w fun r w'=>r = .returned (.bool g)/\Below w.heap.size w w':=by
 refine qtn_ p t tt cs n a c hn hl t.gn t.cn rfl rfl _ _ _ (ruleP p t.g gs ks) g rfl rfl rfl ?_ w (h_ fun h1 h2 _ w' hb=>?_) hp hA
 ·rw[<-hg,hn]
  unfold grt15 grtA negA
  congr 1
  congr 1
  ·congr 1
   ·congr 1
    exact decide_eq_decide.2 (by omega)
   ·exact decide_eq_decide.2 (by omega)
  ·exact decide_eq_decide.2 (by omega)
 ·have:=of_decide_eq_false h1
  have:=of_decide_eq_false h2
  exact qpv_ p hp t tt ht gs ks hgn hcn (by omega) (by omega) w' (hG.below hb) (hC.below hb)
end Go.Proofs.YtbgjiplfaolpjaaGreatDoor.An
