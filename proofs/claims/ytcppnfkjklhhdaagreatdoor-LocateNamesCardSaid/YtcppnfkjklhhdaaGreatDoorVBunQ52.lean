import Derived.Test.YtcppnfkjklhhdaaGreatDoorVIdm
import Derived.Test.YtcppnfkjklhhdaaGreatDoorVBunQ42
import Derived.Test.YtcppnfkjklhhdaaGreatDoorVSkPath
set_option maxRecDepth 100000
set_option maxHeartbeats 4000000
namespace Go.Proofs.YtcppnfkjklhhdaaGreatDoor.An
open Go.RowKit Mem Sc
open Ar (Ent Ru entZ Ok Row Anc isP nm fk RwT cutA)
theorem heql_p {ops:Array Oper} {rest:List Oper} {o:Oper} {a:Act} {w:World} {Q:Exit->Act->World->Prop} (hgd:o.guard=none) (t':TypeId) (x y:Operand) (ho:o.op = .binOp .eql 28 x y t') (xs ys:Array Value) (v:Value) (hx:a.eval x = .agg xs) (hy:a.eval y = .agg ys)
  (hq:∀ w,(binOp .eql 28 (.agg xs) (.agg ys)).run Tryz.prog w = .ok v w) (h:wpList Tryz.prog ops Q rest (a.put o.dst v) w):wpList Tryz.prog ops Q (o :: rest) a w :=
 wpList_plain hgd fun _ hK=>wp_heql t' x y ho xs ys v hx hy (hq w) (hK _ _ h)
theorem qagf_ (w:World):(Instr.sliceAt 42 (.slice none 0 0) (some (.int .i64 0)) none none).run Tryz.prog w = .ok (.slice none 0 0) w:=by
 kernel_rfl
theorem qoz_ (tp:Value) (tip:Int) (a:Option Addr) (n c:Nat) (stop:List UInt8) (most:Int) (E:En) (hE:E.ok) (hz:Hid (E.ht=0)) (g:Bool) (f:Int) (w:World)
  (KP:Hid (∀w',Below w.heap.size w w'->Calls Tryz.prog 37 #[tp,.int .i64 tip] w' fun x w''=>x = .returned (.slice none 0 0)/\Below w'.heap.size w' w''))
  (KF:Hid (∀w',Below w.heap.size w w'->Calls Tryz.prog 14 #[tp,.int .i64 tip,.slice a n c] w' fun x w''=>x = .returned (.int .i64 f)/\Below w'.heap.size w' w''))
  (KA:Hid (∀w',Below w.heap.size w w'->Calls Tryz.prog 29 #[tp,.int .i64 f] w' fun x w''=>x = .returned (.tuple #[.agg (enA E),.bool g])/\Below w'.heap.size w' w'')) :
  Calls Tryz.prog 17 #[tp,.int .i64 tip,.slice a n c,.agg (bytesV stop),.int .i64 most] w fun x w'=>x = .returned (.slice none 0 0)/\Below w.heap.size w w':=by
 have ze:=qv_ hE
 have z0:=qv_ enZ_ok
 go_enter Tryz.func17,Tryz.ntmps17
 go_upto_region 1 with fail
 generalize hw0:World.alloc _ _=v0
 have hB:Below w.heap.size w v0:=bl_ hw0
 clear hw0
 obtain ⟨bS,hbS⟩:∃ x,x=w.heap.size:=⟨_,rfl⟩
 rw[<-hbS]
 clear hbS
 go_wp2_with fail
 refine (KP.out _ hB).mono ?_
 rintro x v1 ⟨rfl,hb⟩
 replace hB:=tb_ hB hb
 clear hb
 go_wp2_with fail
 refine (KF.out _ hB).mono ?_
 rintro x v2 ⟨rfl,hb⟩
 replace hB:=tb_ hB hb
 clear hb
 go_wp2_with fail
 refine (KA.out _ hB).mono ?_
 rintro x v3 ⟨rfl,hb⟩
 replace hB:=tb_ hB hb
 clear hb
 have hnew:=qbq_ v3
 have hE1:=qdz_ v3 E
 have hb3:=qcb_ v3 76 Tryz.zeroCells76 (enA E)
 go_upto_region 3 with (with_reducible refine qbc_ rfl _ _ rfl _ _ E rfl rfl rfl ze hnew z0 ?_)
 generalize World.setRow _ _ _=v4 at *
 replace hB:=tb_ hB hb3
 have c1:=EnAt.ht hE1 hE hz
 have hcut:=qagf_
 clear hb3 hnew
 go_wp2_with fail
 go_loopw [14,36] (fun u i wr=>u = .slice none 0 0/\i = .int .i64 0/\Below w.heap.size w wr) (fun _ _ _=>0)
 case atStart=>exact ⟨rfl,rfl,hB⟩
 case round=>
  clear hB c1
  obtain ⟨rfl,rfl,hB⟩:=hrel
  go_wp2_with fail
  go_ret
  exact ⟨rfl,hB⟩
set_option maxHeartbeats 8000000 in
theorem qqv_ (tp:Value) (r:Ru) (M:List Ent) (hM:Ok r M) (hl9:M.length<=900) (j:Nat) (e:Ent) (he:M[j]?=some e) (L:List Int) (hL:Row M (j:Int) L) (f:Nat) (d:Ent) (hd:M[f]?=some d) (hfl:d.hs.length<=e.hs.length) (a:Option Addr) (n c:Nat) (stop:List UInt8) (h32:stop.length=32) (most:Int) (w:World)
  (KP:Hid (∀w',Below w.heap.size w w'->Calls Tryz.prog 37 #[tp,.int .i64 (j:Int)] w' fun x w''=>∃ g,x = .returned (.slice (some ⟨g,0,none⟩) e.hs.length e.hs.length)/\w'.heap.size<=g/\Has w'' g ((L.drop 1).map (Value.int .i64)).toArray 3/\Below w'.heap.size w' w''))
  (KF:Hid (∀w',Below w.heap.size w w'->Calls Tryz.prog 14 #[tp,.int .i64 (j:Int),.slice a n c] w' fun x w''=>x = .returned (.int .i64 (f:Int))/\Below w'.heap.size w' w''))
  (KA:Hid (∀(n:Nat) (e:Ent),M[n]?=some e->(enOf r e).ok/\∀ w',Below w.heap.size w w'->Calls Tryz.prog 29 #[tp,.int .i64 (n:Int)] w' fun x w''=>x = .returned (.tuple #[.agg (enA (enOf r e)),.bool true])/\Below w'.heap.size w' w'')) :
  Calls Tryz.prog 17 #[tp,.int .i64 (j:Int),.slice a n c,.agg (bytesV stop),.int .i64 most] w fun x w'=>∃ v,x = .returned v/\HeadsR w' v (cutA stop most 0 (e.hs.drop d.hs.length))/\Below w.heap.size w w':=by
 have hLl:=hL.len hM he
 have hch:=hM.chain j e he
 have hj9:=(List.getElem?_eq_some_iff.1 he).1
 obtain ⟨hE,KA1⟩:=KA.out f d hd
 have KA1:=h_ KA1
 obtain ⟨k,hk⟩:∃ k,k=d.hs.length:=⟨_,rfl⟩
 obtain ⟨hh,hhe⟩:∃ hh,hh=e.hs.length:=⟨_,rfl⟩
 have HT:Hid ((enOf r d).ht=(k:Int)):=h_ (by rw[hk];rfl)
 have HQ:Hid (∀(q:Nat) (x:Int),(L.drop 1)[k+q]?=some x->∃ (m:Nat) (y:Ent),x=(m:Int)/\M[m]?=some y/\(e.hs.drop k)[q]?=some (y.h r.g)):=h_ fun q x hx=>by
  rw[List.getElem?_drop] at hx
  obtain ⟨m,y,h1,h2,h3,h4⟩:=Ar.row_h hM he hL hx
  refine ⟨m,y,h1,h2,?_⟩
  rw[List.getElem?_drop,<-h4,show 1+(k+q)=(k+q)+1 by omega,List.getElem?_cons_succ]
 have HOK:Hid (∀x ∈ e.hs.drop k,x.ok):=h_ fun x hx=>(hch.2 x (List.mem_of_mem_drop hx)).1
 have hDl:(L.drop 1).length=hh:=by rw[List.length_drop,hLl,<-hhe];omega
 obtain ⟨H,hH⟩:∃ H,H=e.hs.drop k:=⟨_,rfl⟩
 obtain ⟨nn,hnn⟩:∃ nn,nn=hh - k:=⟨_,rfl⟩
 have hHl:H.length=nn:=by rw[hH,List.length_drop,<-hhe,hnn]
 rw[<-hk] at hfl |-
 rw[<-hhe] at hfl KP
 rw[<-hH] at HQ HOK |-
 obtain ⟨T,hT⟩:∃ T,T=cutA stop most 0 H:=⟨_,rfl⟩
 rw[<-hT]
 have HT0:Hid (T=H.take 0 ++ cutA stop most 0 (H.drop 0)):=h_ hT
 have HHl:=h_ hHl
 have hnn9:nn<=900:=by have:=hch.1;omega
 obtain ⟨D,hD⟩:∃ D,D=L.drop 1:=⟨_,rfl⟩
 rw[<-hD] at HQ KP hDl
 have HDl:=h_ (And.intro hDl (And.intro hfl hnn))
 clear hLl hch hj9 hk hhe hT hH hHl hd he hL hD
 generalize enOf r d=E at *
 have ze:=qv_ hE
 have z0:=qv_ enZ_ok
 have hbs:=qe_ h32
 have hbv:=qcy_ h32
 go_enter Tryz.func17,Tryz.ntmps17
 go_upto_region 1 with fail
 generalize hw0:World.alloc _ _=v0
 have hB:Below w.heap.size w v0:=bl_ hw0
 have hS:Has v0 w.heap.size (bytesV stop) 28:=by rw[<-hw0];exact Has.new _ _
 clear hw0
 obtain ⟨bS,hbS⟩:∃ x,x=w.heap.size:=⟨_,rfl⟩
 rw[<-hbS] at hS |-
 clear hbS
 go_wp2_with fail
 refine (KP.out _ hB).mono ?_
 rintro x v1 ⟨gP,rfl,_,hP,hb⟩
 replace hS:=qd_ hb hS (Has.lt hS)
 replace hB:=tb_ hB hb
 clear hb KP
 go_wp2_with fail
 refine (KF.out _ hB).mono ?_
 rintro x v2 ⟨rfl,hb⟩
 replace hS:=qd_ hb hS (Has.lt hS)
 replace hP:=qd_ hb hP (Has.lt hP)
 replace hB:=tb_ hB hb
 clear hb KF
 go_wp2_with fail
 refine (KA1.out _ hB).mono ?_
 rintro x v3 ⟨rfl,hb⟩
 replace hS:=qd_ hb hS (Has.lt hS)
 replace hP:=qd_ hb hP (Has.lt hP)
 replace hB:=tb_ hB hb
 clear hb KA1
 have hnew:=qbq_ v3
 have hE1:=qdz_ v3 E
 have hb3:=qcb_ v3 76 Tryz.zeroCells76 (enA E)
 go_upto_region 3 with (with_reducible refine qbc_ rfl _ _ rfl _ _ E rfl rfl rfl ze hnew z0 ?_)
 generalize World.setRow _ _ _=v4 at *
 replace hS:=qd_ hb3 hS (Has.lt hS)
 replace hP:=qd_ hb3 hP (Has.lt hP)
 replace hB:=tb_ hB hb3
 have c1:=EnAt.ht hE1 hE HT
 clear hb3 hnew
 have hLie:MM.Lie v4 0 (gP+1) (some ⟨gP,0,none⟩) D:=fun _=>⟨gP,0,rfl,Nat.zero_le _,Nat.lt_succ_self _,fun i hi=>by
  rw[Nat.zero_add,Has.cell hP i,List.getElem?_toArray,List.getElem?_map,List.getElem?_eq_getElem hi,List.getD_eq_getElem?_getD,List.getElem?_eq_getElem hi]
  rfl⟩
 obtain ⟨p',hcut,hLie2⟩:=MM.qadi_ (k:=k) HDl.out.1 HDl.out.2.1 (Nat.le_refl _) hLie
 rw[<-HDl.out.2.2] at hcut
 have HCD:Hid (∀w',Below v4.heap.size v4 w'->∀ (q:Nat) (x:Int),D[k+q]?=some x->∃ b o,p'=some ⟨b,o,none⟩/\w'.cell? ⟨b,o+q,none⟩=some (.int .i64 x)):=h_ fun w' hb q x hx=>by
  have h1:(D.drop k)[q]?=some x:=by rw[List.getElem?_drop];exact hx
  have h2:=(List.getElem?_eq_some_iff.1 h1).1
  obtain ⟨b,o,e1,_,hlt,hc⟩:=hLie2 (by omega)
  refine ⟨b,o,e1,?_⟩
  have hg:=Has.lt hP
  rw[(hb.cell (p:=⟨b,o+q,none⟩) (by show b<_;omega)),hc q h2,List.getD_eq_getElem?_getD,h1]
  rfl
 have HS:=h_ fun (w':World) (hb:Below v4.heap.size v4 w')=>qd_ hb hS (Has.lt hS)
 have HB4:=h_ hB
 have hb4:=Below.refl v4.heap.size v4
 have hR0:v4.ownsRow v4.heap.size 30 68 (.slice none 0 0) 0 (headersC (H.take 0)):=by
  have:=World.ownsRow_nil v4 v4.heap.size 30 68
  simpa [headersC] using this
 clear hLie hLie2 hS hP hB hE1 ze hE
 go_wp2_with fail
 clear c1 hcut
 go_loopw [14,36] (fun u i wr=>∃ q:Nat,q<=nn/\i = .int .i64 (q:Int)/\wr.ownsRow v4.heap.size 30 68 u q (headersC (H.take q))/\Hid (T=H.take q ++ cutA stop most q (H.drop q))/\Below v4.heap.size v4 wr) (fun _ i _=>nn - (intOf i).toNat)
 case atStart=>exact ⟨0,by omega,rfl,hR0,HT0,hb4⟩
 case round=>
  clear hR0 HT0 hb4
  obtain ⟨q,hq,rfl,hR,HTq,hb4⟩:=hrel
  have hB:Below w.heap.size w wr:=tb_ HB4.out hb4
  obtain ⟨pO,cO,rfl,hcO⟩:=qan_ hR
  by_cases hlt:q<nn
  ·obtain ⟨x,hx⟩:∃ x,D[k+q]?=some x:=⟨_,List.getElem?_eq_getElem (by rw[HDl.out.1];have:=HDl.out.2;omega)⟩
   obtain ⟨b',o',e',xc⟩:=HCD.out wr hb4 q x hx
   subst e'
   obtain ⟨m,y,rfl,hy,hyq⟩:=HQ.out q x hx
   have hdq:=qhm_ hyq
   by_cases hmost:most<=(q:Int)
   ·have t1:decide (most<=(q:Int))=true:=decide_eq_true hmost
    have hTe:Hid (T=H.take q):=h_ (by have:=HTq.out;rwa [Ar.qgf_ hmost,List.append_nil] at this)
    have HR:=h_ hR
    clear hx hy hyq hdq hmost hR
    go_wp2_with fail
    go_ret
    have hR:=HR.out
    rw[<-hTe.out] at hR
    have el:T.length=q:=by rw[hTe.out,List.length_take,HHl.out];omega
    rw[<-el] at hR |-
    exact ⟨_,rfl,qeu_ hR (fun z hz=>HOK.out z (List.mem_of_mem_take (hTe.out ▸ hz))),hB⟩
   ·have t1:decide (most<=(q:Int))=false:=decide_eq_false hmost
    obtain ⟨hE2,KA2⟩:=KA.out m y hy
    have KA2:=h_ KA2
    obtain ⟨g,hg⟩:∃ g,((enOf r y).id==stop)=g:=⟨_,rfl⟩
    have HTN:Hid (H[q]?=some (enOf r y).h/\(g=true->T=H.take (q+1))/\(g=false->T=H.take (q+1) ++ cutA stop most (q+1) (H.drop (q+1)))):=h_ (by
     refine ⟨hyq,fun h=>?_,fun h=>?_⟩
     ·have h1:(y.h r.g).id=stop:=by rw[h,beq_iff_eq] at hg;exact hg
      have:=HTq.out
      rw[hdq,Ar.qgg_ (by omega) h1] at this
      rw[this,qfi_ hyq]
     ·have h1:¬(y.h r.g).id=stop:=fun h'=>by
       have h2:((enOf r y).id==stop)=true:=beq_iff_eq.2 h'
       rw[hg,h] at h2
       cases h2
      have:=HTq.out
      rw[hdq,Ar.qou_ (by omega) h1] at this
      rw[this,qfi_ hyq,List.append_assoc]
      rfl)
    have heq:=hn_eql (enOf r y).id stop hE2.2 h32 g hg
    clear hx hy hyq hdq hmost HTq hg
    generalize enOf r y=E2 at *
    have z2:=qv_ hE2
    have l32:=hE2.2
    have hb2s:=qe_ l32
    have zh:=qh_ hE2.1
    have zha:=qs_ hE2.1
    go_wp2_with fail
    refine (KA2.out _ hB).mono ?_
    rintro x v5 ⟨rfl,hb⟩
    have hR5:=qbg_ hR hb (Nat.le_refl _)
    replace hb4:=tb_ hb4 hb
    clear hb KA2 hR xc hB
    have hnew:=qbq_ v5
    have hE5:=qdz_ v5 E2
    have hb3:=qcb_ v5 76 Tryz.zeroCells76 (enA E2)
    go_upto_region 9 with (with_reducible refine qbc_ rfl _ _ rfl _ _ E2 rfl rfl rfl z2 hnew z0 ?_)
    generalize World.setRow _ _ _=v6 at *
    obtain ⟨bE,hbE⟩:∃ x,x=v5.heap.size:=⟨_,rfl⟩
    rw[<-hbE] at hE5 |-
    have hR6:=qbg_ hR5 hb3 (Nat.le_refl _)
    have HBE:Hid (v4.heap.size<=bE/\∀ k,(Value.slice pO q cO).ownBlock=some k->k<bE):=h_ ⟨by have:=hb4.size;omega,fun k hk=>by rw[hbE];exact (qet_ hR5 k hk).2⟩
    replace hb4:=tb_ hb4 hb3
    clear hb3 hnew hR5 hbE
    have hh0:=hE5.head
    have hb7:Below v6.heap.size v6 (v6.alloc (.cells (hdA E2.h) 30)):=(Below.refl _ _).alloc (Nat.le_refl _) _
    have hN7:(v6.alloc (.cells (hdA E2.h) 30)).rangeAt v6.heap.size 0 (hdC E2.h):=by
     have:=qbh_ (A:=[]) (cs:=hdC E2.h) (C:=[]) (o:=0) (w:=v6.alloc (.cells (hdA E2.h) 30)) (b:=v6.heap.size) (t:=30) (by rw[List.append_nil];exact Has.new _ _) rfl
     exact this
    have hR7:=qbg_ hR6 hb7 (Nat.le_refl _)
    have hE7:=hE5.on hb7
    have hb47:=tb_ hb4 hb7
    have hs7:=hb47.size
    have hq9:q<=1000:=by omega
    have hE2h:=hE2.1
    clear hR6 hb7 hb4 hE5
    go_upto_region 10 with (first
     | (with_reducible refine qaa_ rfl _ rfl bE 0 rfl E2.h hh0 zh ?_)
     | (with_reducible refine qiv_ rfl _ rfl (hdA E2.h) rfl zha ?_)
     | ((with_reducible refine app_hd rfl _ _ rfl v4.heap.size (.slice pO q cO) q _ rfl hR7 v6.heap.size E2.h hE2h rfl hN7 hq9 hs7 ?_);intro v' v8 hR8 hb8 hg8;obtain ⟨p8,c8,rfl,hc8⟩:=qan_ hR8))
    have hE8:EnAt v8 bE E2:=(hg8.block bE (Has.lt hE7) (fun e=>Nat.lt_irrefl _ (HBE.out.2 bE e.symm))).trans hE7
    have hb48:=hb47.trans hb8
    rw[<-qfi_ HTN.out.1] at hR8
    have hid:=hE8.idr hE2
    have hS8:=qcx_ (HS.out _ hb48)
    clear hE7 hb8 hg8 hR7 hN7 hh0 hs7 hb47 hE8
    cases g
    ·have HT2:=h_ (HTN.out.2.2 rfl)
     go_wp2_with (first
      | (with_reducible refine qq_ rfl _ rfl bE 68 rfl E2.id hid hb2s ?_)
      | (with_reducible refine qq_ rfl _ rfl bS 0 rfl stop hS8 hbs ?_)
      | (with_reducible refine heql_p rfl _ _ _ rfl (bytesV E2.id) (bytesV stop) (.bool false) rfl rfl heq ?_))
     go_roundw
     case rel=>exact ⟨q+1,by omega,by go_num,hR8,HT2,hb48⟩
     case measure=>simp[intOf];omega
    ·have HT2:=h_ (HTN.out.2.1 rfl)
     have HR:=h_ hR8
     clear hR8
     go_wp2_with (first
      | (with_reducible refine qq_ rfl _ rfl bE 68 rfl E2.id hid hb2s ?_)
      | (with_reducible refine qq_ rfl _ rfl bS 0 rfl stop hS8 hbs ?_)
      | (with_reducible refine heql_p rfl _ _ _ rfl (bytesV E2.id) (bytesV stop) (.bool true) rfl rfl heq ?_))
     go_ret
     have hR:=HR.out
     rw[<-HT2.out] at hR
     have el:T.length=q+1:=by rw[HT2.out,List.length_take,HHl.out];omega
     rw[<-el] at hR |-
     exact ⟨_,rfl,qeu_ hR (fun z hz=>HOK.out z (List.mem_of_mem_take (HT2.out ▸ hz))),tb_ HB4.out hb48⟩
  ·obtain rfl:q=nn:=by omega
   have hTe:Hid (T=H):=h_ (by
    have:=HTq.out
    rw[List.take_of_length_le (by rw[HHl.out];exact Nat.le_refl _),List.drop_of_length_le (by rw[HHl.out];exact Nat.le_refl _)] at this
    rw[this];exact List.append_nil _)
   have HR:=h_ hR
   clear hR
   go_wp2_with fail
   go_ret
   have hR:=HR.out
   rw[List.take_of_length_le (by rw[HHl.out];exact Nat.le_refl _),<-hTe.out] at hR
   have el:T.length=q:=by rw[hTe.out,HHl.out]
   rw[<-el] at hR |-
   exact ⟨_,rfl,qeu_ hR (fun z hz=>HOK.out z (hTe.out ▸ hz)),hB⟩
def AnsI (r:Ru) (M:List Ent) (tip:Int) (L:List Int) (ids:List (List UInt8)) (stop:List UInt8) (most:Int) (T:List Hd):Prop :=
 (∃(j f:Nat) (e d:Ent),tip=(j:Int)/\M[j]?=some e/\fk r M L ids=(f:Int)/\M[f]?=some d/\d.hs.length<=e.hs.length/\L[d.hs.length]?=some (f:Int)/\T=cutA stop most 0 (e.hs.drop d.hs.length))\/(¬isP M tip/\L=[]/\T=[])
theorem AnsI.ex {r:Ru} {M:List Ent} (hM:Ok r M) {tip:Int} {L:List Int} (h:RwT M tip L) (ids:List (List UInt8)) (stop:List UInt8) (most:Int):∃ T,AnsI r M tip L ids stop most T:=by
 rcases h with ⟨hp,hL⟩|⟨hp,hL⟩
 ·obtain ⟨j,e,rfl,he⟩:=hp.is
  have hin:=Ar.fk_in hM he hL ids
  obtain ⟨f,d,hf,hd⟩:=RwT.place hM (.inl ⟨hp,hL⟩) hin
  rw[hf] at hin
  have hat:=hL.at hM hin hd
  have hl:=(List.getElem?_eq_some_iff.1 hat).1
  have:=hL.len hM he
  exact ⟨_,.inl ⟨j,f,e,d,rfl,he,hf,hd,by omega,hat,rfl⟩⟩
 ·exact ⟨[],.inr ⟨hp,hL,rfl⟩⟩
theorem AnsI.ok {r:Ru} {M:List Ent} (hM:Ok r M) (hl9:M.length<=900) {tip:Int} {L:List Int} {ids:List (List UInt8)} {stop:List UInt8} {most:Int} {T:List Hd} (h:AnsI r M tip L ids stop most T):(∀x ∈ T,x.ok)/\T.length<=900:=by
 rcases h with ⟨j,f,e,d,rfl,he,_,_,_,_,rfl⟩|⟨_,_,rfl⟩
 ·have hc:=hM.chain j e he
  have h1:=(List.getElem?_eq_some_iff.1 he).1
  refine ⟨fun x hx=>(hc.2 x (List.mem_of_mem_drop (Ar.qafz_ _ _ _ _ x hx))).1,?_⟩
  have:=Ar.qafy_ stop most (e.hs.drop d.hs.length) 0
  rw[List.length_drop] at this
  have:=hc.1
  omega
 ·exact ⟨fun x hx=>(by cases hx),Nat.zero_le _⟩
theorem qpa_ (w:World):HeadsR w (.slice none 0 0) []:=⟨none,0,rfl,Nat.le_refl _,fun h=>by simp at h⟩
section
variable {w:World} {F:Nat->Prop} {b:Nat} {r:Ru} {M:List Ent} {ls:List Int}
theorem qzj_ (h:TrS w F b r M ls) (hM:Ok r M) (hl9:M.length<=900) (hl:ls.length=M.length) (tip:Int) (L:List Int) (hW:RwT M tip L) (a:Option Addr) (n c:Nat) (ids:List (List UInt8)) (hn:n=ids.length) (hn9:n<=4611686018427387904) (hN:NamesAt w a ids) (stop:List UInt8) (h32:stop.length=32) (most:Int) (T:List Hd) (hT:AnsI r M tip L ids stop most T) :
  Calls Tryz.prog 17 #[.pointer (some ⟨b,0,none⟩),.int .i64 tip,.slice a n c,.agg (bytesV stop),.int .i64 most] w fun x w'=>∃ v,x = .returned v/\HeadsR w' v T/\Below w.heap.size w w':=by
 have KF:=fun (w':World) (hb:Below w.heap.size w w')=>qox_ (h.below hb) hM hl9 hl tip L hW a n c ids hn hn9 (hN.below hb)
 rcases hT with ⟨j,f,e,d,rfl,he,hf,hd,hfl,_,rfl⟩|⟨hp,rfl,rfl⟩
 ·rw[hf] at KF
  have hL:Row M (j:Int) L:=by
   rcases hW with ⟨_,hL⟩|⟨hp,_⟩
   ·exact hL
   ·exact absurd (Ar.isP_of he) hp
  exact qqv_ _ r M hM hl9 j e he L hL f d hd hfl a n c stop h32 most w (h_ fun w' hb=>path_at (h.below hb) hM hl9 j e he L hL) (h_ KF) (h_ h.ka)
 ·rw[Ar.qkv_] at KF
  obtain ⟨hE,hA⟩:=h.ka 0 _ hM.zero
  refine (qoz_ _ tip a n c stop most (enOf r entZ) hE (h_ rfl) true 0 w (h_ fun w' hb=>qabb_ _ tip enN enN_ok w' (h_ fun _ hb2=>qku_ ((h.below hb).below hb2) tip hp)) (h_ KF) (h_ hA)).mono ?_
  rintro x w' ⟨rfl,hb⟩
  exact ⟨_,rfl,qpa_ w',hb⟩
end
theorem qvd_ (tip:Int) (a:Option Addr) (n c:Nat) (ids:List (List UInt8)) (hn:n=ids.length) (hn9:n<=4611686018427387904) (stop:List UInt8) (most:Int) (w:World) (hN:NamesAt w a ids) :
  Calls Tryz.prog 17 #[.pointer none,.int .i64 tip,.slice a n c,.agg (bytesV stop),.int .i64 most] w fun x w'=>x = .returned (.slice none 0 0)/\Below w.heap.size w w' :=
 qoz_ _ tip a n c stop most enN enN_ok (h_ rfl) false 0 w (h_ fun w' _=>qage_ tip w') (h_ fun w' hb=>qux_ tip a n c ids hn hn9 w' (hN.below hb)) (h_ fun w' _=>qot_ 0 w')
end Go.Proofs.YtcppnfkjklhhdaaGreatDoor.An
namespace Go.Proofs.YtcppnfkjklhhdaaGreatDoor.An
open Go.RowKit Mem Sc
open Ar (Ent Ru entZ Ok Row isP nm fk RwT cutA)
theorem qve_ (b nn c0:Nat) (a0:Option Addr) (tip:Int) (g1 g2:Bool) (h1:decide (tip<0)=g1) (h2:decide ((nn:Int)<=tip)=g2) (hno:(g1 || g2)=true) (a:Option Addr) (n c:Nat) (stop:List UInt8) (most:Int) (w:World) (hv:w.cell? ⟨b,83,none⟩=some (.slice a0 nn c0)) :
  Ca_ 19 #[.pointer (some ⟨b,0,none⟩),.int .i64 tip,.slice a n c,.agg (bytesV stop),.int .i64 most] w (.slice none 0 0):=by
 cases g1 <;> cases g2
 case false.false=>cases hno
 all_goals
  clear hno
  go_enter Tryz.func19,Tryz.ntmps19
  go_upto_region 1 with fail
  generalize hw0:World.alloc _ _=v0
  have hB:Below w.heap.size w v0:=bl_ hw0
  clear hw0
  have hv0:=(hB.cell (p:=⟨b,83,none⟩) (block_lt_of_cell hv)).trans hv
  go_wp2_with fail
  go_ret
  exact ⟨rfl,hB⟩
structure An14 (stop:List UInt8) (most:Int) (T HS acc:List Hd) (f p k:Nat):Prop where
 len:acc.length=k
 ahead:p<=f->k=0
 all:T=acc ++ cutA stop most k (HS.drop (max p (f+1)))
 few:k<=p
theorem An14.start (stop:List UInt8) (most:Int) (HS:List Hd) (f:Nat):An14 stop most (cutA stop most 0 (HS.drop (f+1))) HS [] f 0 0 :=
 ⟨rfl,fun _=>rfl,by rw[show max 0 (f+1)=f+1 by omega];rfl,Nat.le_refl _⟩
theorem An14.early {stop:List UInt8} {most:Int} {T HS acc:List Hd} {f p k:Nat} (h:An14 stop most T HS acc f p k) (hp:p<=f):An14 stop most T HS acc f (p+1) k:=by
 have h0:=h.ahead hp
 refine ⟨h.len,fun _=>h0,?_,by omega⟩
 have:=h.all
 rw[show max p (f+1)=f+1 by omega] at this
 rw[show max (p+1) (f+1)=f+1 by omega]
 exact this
theorem An14.full {stop:List UInt8} {most:Int} {T HS acc:List Hd} {f p k:Nat} (h:An14 stop most T HS acc f p k) (hm:most<=(k:Int)):An14 stop most T HS acc f (p+1) k:=by
 refine ⟨h.len,fun hp=>h.ahead (by omega),?_,by have:=h.few;omega⟩
 have:=h.all
 rw[Ar.qgf_ hm] at this |-
 exact this
theorem An14.stop_ {stop:List UInt8} {most:Int} {T HS acc:List Hd} {f p k:Nat} (h:An14 stop most T HS acc f p k) (hp:f<p) (hm:(k:Int)<most) {x:Hd} (hx:HS[p]?=some x) (hs:x.id=stop):T=acc ++ [x]:=by
 have:=h.all
 rw[show max p (f+1)=p by omega,qhm_ hx,Ar.qgg_ hm hs] at this
 exact this
theorem An14.more {stop:List UInt8} {most:Int} {T HS acc:List Hd} {f p k:Nat} (h:An14 stop most T HS acc f p k) (hp:f<p) (hm:(k:Int)<most) {x:Hd} (hx:HS[p]?=some x) (hs:¬x.id=stop):An14 stop most T HS (acc ++ [x]) f (p+1) (k+1):=by
 refine ⟨by rw[List.length_append,h.len];rfl,fun hq=>by omega,?_,by have:=h.few;omega⟩
 have:=h.all
 rw[show max p (f+1)=p by omega,qhm_ hx,Ar.qou_ hm hs] at this
 rw[show max (p+1) (f+1)=p+1 by omega,this,List.append_assoc]
 rfl
theorem An14.done {stop:List UInt8} {most:Int} {T HS acc:List Hd} {f p k:Nat} (h:An14 stop most T HS acc f p k) (hp:HS.length<=p):T=acc:=by
 have:=h.all
 rw[List.drop_of_length_le (by omega)] at this
 rw[this]
 exact List.append_nil _
set_option maxHeartbeats 16000000 in
theorem qmv_ (b g0 c0 g1 c1:Nat) (r:Ru) (M:List Ent) (hM:Ok r M) (j:Nat) (e:Ent) (he:M[j]?=some e) (L:List Int) (hL:Row M (j:Int) L) (hL9:L.length<=900) (f fm:Nat) (hf:L[f]?=some (fm:Int)) (a:Option Addr) (n c:Nat) (stop:List UInt8) (h32:stop.length=32) (most:Int) (T:List Hd) (hT:T=cutA stop most 0 (e.hs.drop f)) (hTok:∀ x ∈ T,x.ok) (w:World)
  (HH:Hid (∀w',Below w.heap.size w w'->HdsAt w' b g0 c0 M.length r M)) (HI:Hid (∀w',Below w.heap.size w w'->IdsAt w' b g1 c1 M.length r M)) (hpos:0<L.length)
  (KF:Hid (∀w',Below w.heap.size w w'->Calls Tryz.prog 15 #[.pointer (some ⟨b,0,none⟩),.int .i64 (j:Int),.slice a n c] w' fun x w''=>x = .returned (.int .i64 (fm:Int))/\Below w'.heap.size w' w''))
  (KP:Hid (∀w',Below w.heap.size w w'->Calls Tryz.prog 31 #[.pointer (some ⟨b,0,none⟩),.int .i64 (j:Int)] w' fun e w''=>∃ v,e = .returned v/\w''.ownsRow w'.heap.size 3 1 v L.length (L.map (Value.int .i64))/\Below w'.heap.size w' w'')) :
  Calls Tryz.prog 19 #[.pointer (some ⟨b,0,none⟩),.int .i64 (j:Int),.slice a n c,.agg (bytesV stop),.int .i64 most] w fun x w'=>∃ v,x = .returned v/\HeadsR w' v T/\Below w.heap.size w w':=by
 have hj:=(List.getElem?_eq_some_iff.1 he).1
 have hLl:=hL.len hM he
 have HQ:Hid (∀(p:Nat) (x:Int),L[p]?=some x->∃ (m:Nat) (y:Ent),x=(m:Int)/\M[m]?=some y/\(r.g :: e.hs)[p]?=some (y.h r.g)/\((m:Int)=(fm:Int) ↔ p=f)):=h_ fun p x hx=>by
  obtain ⟨m,y,h1,h2,h3,h4⟩:=Ar.row_h hM he hL hx
  refine ⟨m,y,h1,h2,h4,?_⟩
  rw[<-h1]
  constructor
  ·intro hq
   obtain ⟨u1,u2⟩:=List.getElem?_eq_some_iff.1 hx
   obtain ⟨v1,v2⟩:=List.getElem?_eq_some_iff.1 hf
   have hp:=(hL.up hM).1
   rcases Nat.lt_trichotomy p f with h|h|h
   ·have:=List.pairwise_iff_getElem.1 hp p f u1 v1 h;omega
   ·exact h
   ·have:=List.pairwise_iff_getElem.1 hp f p v1 u1 h;omega
  ·rintro rfl
   rw[hx] at hf
   exact Option.some.inj hf
 have HA0:Hid (An14 stop most T (r.g :: e.hs) [] f 0 0):=h_ (by
  have:=An14.start stop most (r.g :: e.hs) f
  rwa [List.drop_succ_cons,<-hT] at this)
 obtain ⟨HS,hHS⟩:∃ HS,HS=r.g :: e.hs:=⟨_,rfl⟩
 rw[<-hHS] at HQ HA0
 obtain ⟨ln,hln⟩:∃ ln,ln=L.length:=⟨_,rfl⟩
 rw[<-hln] at KP hL9 hpos hLl
 have HLN:Hid (ln=L.length/\HS.length=ln):=h_ ⟨hln,by rw[hHS,List.length_cons,hLl]⟩
 obtain ⟨mn,hmn⟩:∃ mn,mn=M.length:=⟨_,rfl⟩
 rw[<-hmn] at HH HI hj
 have HMN:=h_ hmn
 have HTok:=h_ hTok
 have hbs:=qe_ h32
 have hbv:=qcy_ h32
 have t1:¬j<0:=by omega
 have t2:¬mn<=j:=by omega
 clear hf hT hHS hln hmn hLl he hL hTok
 go_enter Tryz.func19,Tryz.ntmps19
 go_upto_region 1 with fail
 generalize hw0:World.alloc _ _=v0
 have hB:Below w.heap.size w v0:=bl_ hw0
 have hS:Has v0 w.heap.size (bytesV stop) 28:=by rw[<-hw0];exact Has.new _ _
 clear hw0
 obtain ⟨bS,hbS⟩:∃ x,x=w.heap.size:=⟨_,rfl⟩
 rw[<-hbS] at hS |-
 clear hbS
 have cH:=(HH.out _ hB).1
 go_wp2_with fail
 refine (KF.out _ hB).mono ?_
 rintro x v1 ⟨rfl,hb⟩
 replace hS:=qd_ hb hS (Has.lt hS)
 replace hB:=tb_ hB hb
 clear hb KF cH t1 t2
 go_wp2_with fail
 refine (KP.out _ hB).mono ?_
 rintro e v2 ⟨vL,rfl,hvL,hb⟩
 replace hS:=qd_ hb hS (Has.lt hS)
 replace hB:=tb_ hB hb
 clear hb
 obtain ⟨gL,cL,rfl⟩:=qbw_ hvL hpos
 have HVL:Hid (∀w',Below v2.heap.size v2 w'->∀ (m:Nat) (x:Int),L[m]?=some x->w'.cell? ⟨gL,m,none⟩=some (.int .i64 x)):=h_ fun w' hb m x hx=>by
  obtain ⟨g2,c2,e2,hc⟩:=qer_ hvL hx
  cases e2
  exact (hb.cell (block_lt_of_cell hc)).trans hc
 have HB2:=h_ hB
 have HSS:=h_ fun (w':World) (hb:Below v2.heap.size v2 w')=>qcx_ (qd_ hb hS (Has.lt hS))
 have hb2:=Below.refl v2.heap.size v2
 have hR0:v2.ownsRow v2.heap.size 30 68 (.slice none 0 0) 0 (headersC []):=by
  have:=World.ownsRow_nil v2 v2.heap.size 30 68
  simpa [headersC] using this
 clear hvL hB hS
 go_wp2_with fail
 go_loopw [11,13,36] (fun u bb i wr=>∃ (p k:Nat) (acc:List Hd) (g:Bool),p<=ln/\k<=900/\i = .int .i64 (p:Int)/\bb = .bool g/\wr.ownsRow v2.heap.size 30 68 u k (headersC acc)/\Hid (An14 stop most T HS acc f p k/\(g=true ↔ f<p))/\Below v2.heap.size v2 wr) (fun _ _ i _=>ln - (intOf i).toNat)
 case atStart=>exact ⟨0,0,[],false,by omega,by omega,rfl,rfl,hR0,h_ ⟨HA0.out,⟨fun h=>(by cases h),fun h=>by omega⟩⟩,hb2⟩
 case round=>
  clear hR0 hb2 HA0
  obtain ⟨p,k,acc,g,hp,hk9,rfl,rfl,hR,HA,hb2⟩:=hrel
  have hB:Below w.heap.size w wr:=tb_ HB2.out hb2
  obtain ⟨pO,cO,rfl,hcO⟩:=qan_ hR
  by_cases hlt:p<ln
  ·obtain ⟨x,hx⟩:∃ x,L[p]?=some x:=⟨_,List.getElem?_eq_getElem (by rw[<-HLN.out.1];exact hlt)⟩
   have xc:=HVL.out wr hb2 p x hx
   obtain ⟨m,y,rfl,hy,hyp,hmf⟩:=HQ.out p x hx
   obtain ⟨t,ht⟩:∃ t,((m:Int)==(fm:Int))=t:=⟨_,rfl⟩
   have hmm:m<mn:=by rw[HMN.out];exact (List.getElem?_eq_some_iff.1 hy).1
   cases g
   ·-- not behind the fork yet
    have hpf:p<=f:=Nat.le_of_not_lt fun h=>by have:=HA.out.2.2 h;cases this
    have HA2:Hid (An14 stop most T HS acc f (p+1) k/\(t=true ↔ f<p+1)):=h_ ⟨HA.out.1.early hpf,by
     rw[<-ht,beq_iff_eq,hmf]
     omega⟩
    clear hx hy hyp hmf HA hpf hB
    cases t
    ·go_wp2_with fail
     go_roundw
     case rel=>exact ⟨p+1,k,acc,false,by omega,hk9,by go_num,rfl,hR,HA2,hb2⟩
     case measure=>simp[intOf];omega
    ·go_wp2_with fail
     go_roundw
     case rel=>exact ⟨p+1,k,acc,true,by omega,hk9,by go_num,rfl,hR,HA2,hb2⟩
     case measure=>simp[intOf];omega
   ·have hpf:f<p:=HA.out.2.1 rfl
    by_cases hmost:(k:Int)<most
    ·have t1:decide ((k:Int)<most)=true:=decide_eq_true hmost
     have hkp:=HA.out.1.few
     obtain ⟨c83,hrh⟩:=HH.out wr hB
     obtain ⟨hyo,rh⟩:=hrh m y hy
     have HI1:Hid (∀w',Below v2.heap.size v2 w'->w'.cell? ⟨b,84,none⟩=some (.slice (some ⟨g1,0,none⟩) mn c1)/\w'.rangeAt g1 (m*32) (Lib.byteCells (y.h r.g).id)):=h_ fun w' hb=>by
      have h:=HI.out w' (tb_ HB2.out hb)
      exact ⟨h.1,h.2 m y hy⟩
     have l2:(y.h r.g).id.length=32:=qo_ _
     obtain ⟨s,hs⟩:∃ s,((y.h r.g).id==stop)=s:=⟨_,rfl⟩
     have HA2:Hid ((s=true->T=acc ++ [y.h r.g])/\(s=false->An14 stop most T HS (acc ++ [y.h r.g]) f (p+1) (k+1))):=h_ ⟨fun h=>HA.out.1.stop_ hpf hmost hyp (by rw[h,beq_iff_eq] at hs;exact hs),fun h=>HA.out.1.more hpf hmost hyp (fun h'=>by
      have h2:((y.h r.g).id==stop)=true:=beq_iff_eq.2 h'
      rw[hs,h] at h2
      cases h2)⟩
     have heq:=hn_eql (y.h r.g).id stop l2 h32 s hs
     have HPF:=h_ hpf
     have HLA:=h_ HA.out.1.len
     clear hx hy hyp hmf HA hpf hmost hs hrh
     generalize (y.h r.g).id=nd at *
     generalize y.h r.g=z at *
     have zh:=qh_ hyo
     have zha:=qs_ hyo
     have hbs2:=qe_ l2
     have hb7:Below wr.heap.size wr (wr.alloc (.cells (hdA z) 30)):=(Below.refl _ _).alloc (Nat.le_refl _) _
     have hN7:(wr.alloc (.cells (hdA z) 30)).rangeAt wr.heap.size 0 (hdC z):=by
      have:=qbh_ (A:=[]) (cs:=hdC z) (C:=[]) (o:=0) (w:=wr.alloc (.cells (hdA z) 30)) (b:=wr.heap.size) (t:=30) (by rw[List.append_nil];exact Has.new _ _) rfl
      exact this
     have hR7:=qbg_ hR hb7 (Nat.le_refl _)
     have hb27:=tb_ hb2 hb7
     have hs7:=hb27.size
     have hk1:k<=1000:=by omega
     clear hR hb7 hB
     go_upto_region 11 with (first
      | (with_reducible refine qaa_ rfl _ rfl g0 (m*68) rfl z rh zh ?_)
      | (with_reducible refine qiv_ rfl _ rfl (hdA z) rfl zha ?_)
      | ((with_reducible refine app_hd rfl _ _ rfl v2.heap.size (.slice pO k cO) k _ rfl hR7 wr.heap.size z hyo rfl hN7 hk1 hs7 ?_);intro v' v8 hR8 hb8 _;obtain ⟨p8,c8,rfl,hc8⟩:=qan_ hR8))
     have hb28:=hb27.trans hb8
     obtain ⟨c84,rk⟩:=HI1.out v8 hb28
     have hS8:=HSS.out v8 hb28
     have q84:∀ d os,(Sort.grow (redrawn v8 d) os).cell? ⟨b,84,none⟩=some (.slice (some ⟨g1,0,none⟩) mn c1):=cell_regrown c84
     have q1:∀ w',(∃r:Regrown,w'=Sort.grow (redrawn v8 r.d) r.os)->w'.rangeAt g1 (m*32) (Lib.byteCells nd):=fun w' hw'=>qw_ rk (ql_ w' hw') (by rw[hbs2];decide)
     have q2:∀ w',(∃r:Regrown,w'=Sort.grow (redrawn v8 r.d) r.os)->w'.rangeAt bS 0 (Lib.byteCells stop):=fun w' hw'=>qw_ hS8 (ql_ w' hw') (by rw[hbs];decide)
     clear hb8 hR7 hN7 hs7 hb27 rh c83 c84 rk hS8 xc
     refine wp_region_quiet_below (by kernel_rfl) (by kernel_rfl) ?_
     repeat (first
      | (go_big_quiet_want;(with_reducible first|refine qai_ _ rfl g1 (m*32) rfl nd hbs2 q1 ?_|refine qai_ _ rfl bS 0 rfl stop hbs q2 ?_|refine qka_ _ _ _ rfl (bytesV nd) (bytesV stop) (.bool s) rfl rfl heq ?_);(simp only[Act.put,List.setIfInBounds_toArray,List.set_cons_zero,List.set_cons_succ]);go_big_quiet_on)
      | go_big_quiet_step (fail))
     refine wpQuiet_nil ?_
     intro v9 hw'
     have hb9:=ql_ v9 hw'
     have hR9:=qbg_ hR8 hb9 (Nat.le_refl _)
     have hb29:=tb_ hb28 hb9
     clear hw' hb9 q84 q1 q2 heq hR8 hb28
     cases s
     ·have HA3:=h_ (HA2.out.2 rfl)
      go_wp2_with fail
      go_roundw
      case rel=>exact ⟨p+1,k+1,acc ++ [z],true,by omega,by omega,by go_num,rfl,hR9,h_ ⟨HA3.out,⟨fun _=>by have:=HPF.out;omega,fun _=>rfl⟩⟩,hb29⟩
      case measure=>simp[intOf];omega
     ·have HT2:=h_ (HA2.out.1 rfl)
      have HR:=h_ hR9
      clear hR9
      go_wp2_with fail
      go_ret
      have hR:=HR.out
      rw[<-HT2.out] at hR
      have el:T.length=k+1:=by rw[HT2.out,List.length_append,HLA.out];rfl
      rw[<-el] at hR |-
      exact ⟨_,rfl,qeu_ hR HTok.out,tb_ HB2.out hb29⟩
    ·have t1:decide ((k:Int)<most)=false:=decide_eq_false hmost
     have HA2:Hid (An14 stop most T HS acc f (p+1) k/\(true=true ↔ f<p+1)):=h_ ⟨HA.out.1.full (by omega),⟨fun _=>by omega,fun _=>rfl⟩⟩
     clear hx hy hyp hmf HA hpf hmost hB
     go_wp2_with fail
     go_roundw
     case rel=>exact ⟨p+1,k,acc,true,by omega,hk9,by go_num,rfl,hR,HA2,hb2⟩
     case measure=>simp[intOf];omega
  ·obtain rfl:p=ln:=by omega
   have HT2:Hid (T=acc):=h_ (HA.out.1.done (by rw[HLN.out.2];exact Nat.le_refl _))
   have HLA:=h_ HA.out.1.len
   have HR:=h_ hR
   clear hR HA
   go_wp2_with fail
   go_ret
   have hR:=HR.out
   rw[<-HT2.out] at hR
   have el:T.length=k:=by rw[HT2.out,HLA.out]
   rw[<-el] at hR |-
   exact ⟨_,rfl,qeu_ hR HTok.out,hB⟩
theorem qvf_ {w:World} {B:Nat} {F:Nat->Prop} {b:Nat} {r:Ru} {M:List Ent} (h:RfS w B F b r M) (hM:Ok r M) (hl9:M.length<=900) (tip:Int) (L:List Int) (hW:RwT M tip L) (a:Option Addr) (n c:Nat) (ids:List (List UInt8)) (hn:n=ids.length) (hn9:n<=4611686018427387904) (hN:NamesAt w a ids) (stop:List UInt8) (h32:stop.length=32) (most:Int) (T:List Hd) (hT:AnsI r M tip L ids stop most T) :
  Calls Tryz.prog 19 #[.pointer (some ⟨b,0,none⟩),.int .i64 tip,.slice a n c,.agg (bytesV stop),.int .i64 most] w fun x w'=>∃ v,x = .returned v/\HeadsR w' v T/\Below w.heap.size w w':=by
 have KF:=fun (w':World) (hb:Below w.heap.size w w')=>qje_ (h.below hb) hM hl9 tip L hW a n c ids hn hn9 (hN.below hb)
 have hok:=hT.ok hM hl9
 obtain ⟨g0,c0,hH⟩:=h.heads hM
 obtain ⟨g1,c1,hI⟩:=h.ids hM
 rcases hT with ⟨j,f,e,d,rfl,he,hf,hd,hfl,hLf,hTe⟩|⟨hp,rfl,rfl⟩
 ·rw[hf] at KF
  have hL:Row M (j:Int) L:=by
   rcases hW with ⟨_,hL⟩|⟨hp,_⟩
   ·exact hL
   ·exact absurd (Ar.isP_of he) hp
  have hLl:=hL.len hM he
  have hc:=(hM.chain j e he).1
  have hj:=(List.getElem?_eq_some_iff.1 he).1
  exact qmv_ b g0 c0 g1 c1 r M hM j e he L hL (by omega) d.hs.length f hLf a n c stop h32 most T hTe hok.1 w (h_ fun w' hb=>hH.below hb) (h_ fun w' hb=>hI.below hb) (by omega) (h_ KF) (h_ fun w' hb=>qfg_ (h.below hb) hM hl9 j e he L hL)
 ·refine (qve_ b M.length c0 _ tip _ _ rfl rfl ?_ a n c stop most w hH.1).mono ?_
  ·rw[Bool.or_eq_true,decide_eq_true_eq,decide_eq_true_eq]
   by_cases h0:tip<0
   ·exact .inl h0
   ·exact .inr (Int.not_lt.1 fun hh=>hp ⟨by omega,hh⟩)
  ·rintro x w' ⟨rfl,hb⟩
   exact ⟨_,rfl,qpa_ w',hb⟩
end Go.Proofs.YtcppnfkjklhhdaaGreatDoor.An
namespace Go.Proofs.YtcppnfkjklhhdaaGreatDoor.An
open Go.RowKit Mem Sc NN.Rg2
open Ar (Ent Ru entZ Ok RwT)
def AnsR (bt bm:Nat) (tip:Int) (nv:Value) (stop:List UInt8) (most:Int) (T:List Hd):Nat->Value->World->Prop
 | 0,v,_=>v = .pointer (some ⟨bt,0,none⟩)
 | 1,v,_=>v = .int .i64 tip
 | 2,v,_=>v=nv
 | 3,v,_=>v = .agg (bytesV stop)
 | 4,v,_=>v = .int .i64 most
 | 5,v,w=>HeadsR w v T
 | 6,v,_=>v = .pointer (some ⟨bm,0,none⟩)
 | 7,v,_=>v = .int .i64 tip
 | 8,v,_=>v=nv
 | 9,v,_=>v = .agg (bytesV stop)
 | 10,v,_=>v = .int .i64 most
 | 11,v,w=>HeadsR w v T
 | 12,v,_=>v = .bool true
 | 13,v,_=>v = .bool true
 | _,_,_=>True
theorem AnsR.below {bt bm:Nat} {tip:Int} {nv:Value} {stop:List UInt8} {most:Int} {T:List Hd}:∀ (i:Nat) (v:Value) (w w':World),Below w.heap.size w w'->AnsR bt bm tip nv stop most T i v w->AnsR bt bm tip nv stop most T i v w'
 | 5,_,_,_,hb,h=>HeadsR.below h hb
 | 11,_,_,_,hb,h=>HeadsR.below h hb
 | 0,_,_,_,_,h=>h
 | 1,_,_,_,_,h=>h
 | 2,_,_,_,_,h=>h
 | 3,_,_,_,_,h=>h
 | 4,_,_,_,_,h=>h
 | 6,_,_,_,_,h=>h
 | 7,_,_,_,_,h=>h
 | 8,_,_,_,_,h=>h
 | 9,_,_,_,_,h=>h
 | 10,_,_,_,_,h=>h
 | 12,_,_,_,_,h=>h
 | 13,_,_,_,_,h=>h
 | _+14,_,_,_,_,_=>trivial
set_option maxHeartbeats 8000000 in
theorem grp3_:(∀(p:NN.Pr) (_hp:p.ok) (a:Option Addr) (n c:Nat) (w:World) (tip:Int) (pa:Option Addr) (pn pc:Nat) (stop:List UInt8) (most:Int) (_KA:HK_ w 7 #[] (.bool true)) (_KG:HK_ w 8 #[.agg (NN.prA p),.slice a n c] (.bool true)),Ca_ 4 #[.agg (NN.prA p),.slice a n c,.int .i64 tip,.slice pa pn pc,.agg (bytesV stop),.int .i64 most] w (.bool true))/\
  (∀(p:NN.Pr) (_hp:p.ok) (a:Option Addr) (n c:Nat) (w:World) (tip:Int) (pa:Option Addr) (pn pc:Nat) (stop:List UInt8) (most:Int) (_hlong:decide ((40:Int)<(pn:Int))=true) (_KA:HK_ w 7 #[] (.bool true)) (_KG:HK_ w 8 #[.agg (NN.prA p),.slice a n c] (.bool false)),Ca_ 4 #[.agg (NN.prA p),.slice a n c,.int .i64 tip,.slice pa pn pc,.agg (bytesV stop),.int .i64 most] w (.bool true)):=by
 refine ⟨fun p hp a n c w tip pa pn pc stop most KA KG=>?_,
  fun p hp a n c w tip pa pn pc stop most hlong KA KG=>?_⟩
 all_goals
  have hz:=NN.qat_ hp
  go_enter Tryz.func4,Tryz.ntmps4
  go_upto_region 1 with fail
  have hP0:NN.PrAt (w.alloc (.cells (NN.prA p) 32)) w.heap.size p:=NN.Has.new _ _
  have hB0:Below w.heap.size w (w.alloc (.cells (NN.prA p) 32)):=(Below.refl _ _).alloc (Nat.le_refl _) _
  have hs0:(w.alloc (.cells (NN.prA p) 32)).heap.size=w.heap.size+1:=by simp
  generalize w.alloc (.cells (NN.prA p) 32)=u0 at *
  have hI:Has (u0.alloc (.cells (bytesV stop) 28)) (w.heap.size+1) (bytesV stop) 28:=by rw[<-hs0];exact Has.new _ _
  have hB1:Below u0.heap.size u0 (u0.alloc (.cells (bytesV stop) 28)):=(Below.refl _ _).alloc (Nat.le_refl _) _
  have hs1:(u0.alloc (.cells (bytesV stop) 28)).heap.size=u0.heap.size+1:=by simp
  generalize hv0:World.alloc _ _=v0 at *
  have hP:NN.PrAt v0 w.heap.size p:=NN.PrAt.on hP0 hB1
  have hB:Below w.heap.size w v0:=tb_ hB0 hB1
  clear hB0 hB1 hP0 hs1 hv0 hs0
  obtain ⟨bP,hbP⟩:∃ x,x=w.heap.size:=⟨_,rfl⟩
  rw[<-hbP] at hP hI |-
  obtain ⟨bI,hbI⟩:∃ x,x=bP+1:=⟨_,rfl⟩
  rw[<-hbI] at hI |-
  clear hbP hbI
  go_wp2_with (first|fail)
  refine (KA.out _ hB).mono ?_
  rintro e v1 ⟨rfl,hb⟩
  replace hP:=hP.on hb
  replace hB:=tb_ hB hb
  replace hI:=qd_ hb hI (Has.lt hI)
  clear hb
  go_wp2_with (with_reducible first|refine NN.qr_ rfl _ rfl _ rfl hP hz ?_|refine NN.qm_ (by with_unfolding_all rfl) _ rfl _ rfl hP hz ?_)
  refine (KG.out _ hB).mono ?_
  rintro e v2 ⟨rfl,hb⟩
  replace hP:=hP.on hb
  replace hB:=tb_ hB hb
  replace hI:=qd_ hb hI (Has.lt hI)
  clear hb
  go_wp2_with fail
  go_ret
  exact ⟨rfl,hB⟩
set_option maxHeartbeats 8000000 in
theorem qmw_ (p:NN.Pr) (hp:p.ok) (r:Ru) (a:Option Addr) (n c:Nat) (w:World) (tip:Int) (pa:Option Addr) (pn pc:Nat) (stop:List UInt8) (most:Int) (h32:stop.length=32) (ids:List (List UInt8)) (HN:Hid (pn=ids.length)) (hn40:pn<=40) (hlong:decide ((40:Int)<(pn:Int))=false) (HA:Hid (∀w',Below w.heap.size w w'->NamesAt w' pa ids)) (KA:HK_ w 7 #[] (.bool true)) (KG:HK_ w 8 #[.agg (NN.prA p),.slice a n c] (.bool false)) (KGr:Hid (∀w',Below w.heap.size w w'->Calls Tryz.prog 9 #[.agg (NN.prA p),.slice a n c] w' fun e w''=>∃ bt bm,e = .returned (.tuple #[.pointer (some ⟨bt,0,none⟩),.pointer (some ⟨bm,0,none⟩)])/\GrownP w' w'' r 41 bt bm/\Below w'.heap.size w' w'')) :
  Ca_ 4 #[.agg (NN.prA p),.slice a n c,.int .i64 tip,.slice pa pn pc,.agg (bytesV stop),.int .i64 most] w (.bool true):=by
 have hz:=NN.qat_ hp
 go_enter Tryz.func4,Tryz.ntmps4
 go_upto_region 1 with fail
 have hP0:NN.PrAt (w.alloc (.cells (NN.prA p) 32)) w.heap.size p:=NN.Has.new _ _
 have hB0:Below w.heap.size w (w.alloc (.cells (NN.prA p) 32)):=(Below.refl _ _).alloc (Nat.le_refl _) _
 have hs0:(w.alloc (.cells (NN.prA p) 32)).heap.size=w.heap.size+1:=by simp
 generalize w.alloc (.cells (NN.prA p) 32)=u0 at *
 have hI:Has (u0.alloc (.cells (bytesV stop) 28)) (w.heap.size+1) (bytesV stop) 28:=by rw[<-hs0];exact Has.new _ _
 have hB1:Below u0.heap.size u0 (u0.alloc (.cells (bytesV stop) 28)):=(Below.refl _ _).alloc (Nat.le_refl _) _
 have hs1:(u0.alloc (.cells (bytesV stop) 28)).heap.size=u0.heap.size+1:=by simp
 generalize hv0:World.alloc _ _=v0 at *
 have hP:NN.PrAt v0 w.heap.size p:=NN.PrAt.on hP0 hB1
 have hB:Below w.heap.size w v0:=tb_ hB0 hB1
 clear hB0 hB1 hP0 hs1 hv0 hs0
 obtain ⟨bP,hbP⟩:∃ x,x=w.heap.size:=⟨_,rfl⟩
 rw[<-hbP] at hP hI |-
 obtain ⟨bI,hbI⟩:∃ x,x=bP+1:=⟨_,rfl⟩
 rw[<-hbI] at hI |-
 clear hbP hbI
 go_wp2_with (first|fail)
 refine (KA.out _ hB).mono ?_
 rintro e v1 ⟨rfl,hb⟩
 replace hP:=hP.on hb
 replace hB:=tb_ hB hb
 replace hI:=qd_ hb hI (Has.lt hI)
 clear hb
 go_wp2_with (with_reducible first|refine NN.qr_ rfl _ rfl _ rfl hP hz ?_|refine NN.qm_ (by with_unfolding_all rfl) _ rfl _ rfl hP hz ?_)
 refine (KG.out _ hB).mono ?_
 rintro e v2 ⟨rfl,hb⟩
 replace hP:=hP.on hb
 replace hB:=tb_ hB hb
 replace hI:=qd_ hb hI (Has.lt hI)
 clear hb
 go_wp2_with (first|fail|(with_reducible refine NN.qr_ rfl _ rfl _ rfl hP hz ?_))
 refine (KGr.out _ hB).mono ?_
 rintro e v3 ⟨bt,bm,rfl,hGr,hb⟩
 replace hI:=qd_ hb hI (Has.lt hI)
 replace hB:=tb_ hB hb
 clear hb KGr
 obtain ⟨F,Fm,M,lp,hS,hR,hlp,hM,hl⟩:=hGr
 obtain ⟨L,hL⟩:=RwT.ex hM tip
 obtain ⟨T,hT⟩:=AnsI.ex hM hL ids stop most
 have hTl:=(hT.ok hM (by omega)).2
 have KP:Hid (∀w',Below v3.heap.size v3 w'->Calls Tryz.prog 17 #[.pointer (some ⟨bt,0,none⟩),.int .i64 tip,.slice pa pn pc,.agg (bytesV stop),.int .i64 most] w' fun x w''=>∃ v,x = .returned v/\HeadsR w'' v T/\Below w'.heap.size w' w''):=h_ fun w' hb=>qzj_ (hS.below hb) hM (by omega) hlp tip L hL pa pn pc ids HN.out (by omega) (HA.out _ (tb_ hB hb)) stop h32 most T hT
 have KR:Hid (∀w',Below v3.heap.size v3 w'->Calls Tryz.prog 19 #[.pointer (some ⟨bm,0,none⟩),.int .i64 tip,.slice pa pn pc,.agg (bytesV stop),.int .i64 most] w' fun x w''=>∃ v,x = .returned v/\HeadsR w'' v T/\Below w'.heap.size w' w''):=h_ fun w' hb=>qvf_ (hR.below hb) hM (by omega) tip L hL pa pn pc ids HN.out (by omega) (HA.out _ (tb_ hB hb)) stop h32 most T hT
 have HB3:=h_ hB
 have HTl:Hid (T.length<=4611686018427387904):=h_ (Nat.le_trans hTl (by decide))
 clear hS hR hlp hM hl hL hT hTl hB hP
 go_upto_region 6 with fail
 refine qi_ (by kernel_rfl) (fun w'=>Below v3.heap.size v3 w') (fun i v' w'=>AnsR bt bm tip (.slice pa pn pc) stop most T i v' w') (fun _ _ _=>True) (fun w1 w2=>Below w1.heap.size w1 w2) (fun w _=>Below.refl _ w) (fun i v w w' _ hb h=>AnsR.below i v w w' hb h) (by kernel_rfl) (Below.refl _ _).drew (fun _ _=>trivial) ?_ ?_
 ·intro i o listed a' wx ho' hnl hdep hinv
  have hC:=hinv.c
  have hi:i<14:=(Array.getElem?_eq_some_iff.1 ho').1
  have hIx:=qd_ hC hI (Has.lt hI)
  obtain rfl|rfl|rfl|rfl|rfl|rfl|rfl|rfl|rfl|rfl|rfl|rfl|rfl|rfl:i=0\/i=1\/i=2\/i=3\/i=4\/i=5\/i=6\/i=7\/i=8\/i=9\/i=10\/i=11\/i=12\/i=13:=by omega
  all_goals obtain rfl:=Option.some.inj ho'
  ·exact dV_ (S:=fun w1 w2=>Below w1.heap.size w1 w2) (fun w _=>Below.refl _ w) 0 hinv (qa_ rfl) (NN.qk_ rfl) (hinv.old' 13) trivial
  ·exact dV_ (S:=fun w1 w2=>Below w1.heap.size w1 w2) (fun w _=>Below.refl _ w) 1 hinv (qa_ rfl) (NN.qk_ rfl) (hinv.old' 2) trivial
  ·exact dV_ (S:=fun w1 w2=>Below w1.heap.size w1 w2) (fun w _=>Below.refl _ w) 2 hinv (qa_ rfl) (NN.qk_ rfl) (hinv.old' 3) trivial
  ·exact dV_ (S:=fun w1 w2=>Below w1.heap.size w1 w2) (fun w _=>Below.refl _ w) 3 hinv (qa_ rfl) (qdp_ rfl (hinv.old' 10) (qcx_ hIx) h32) rfl trivial
  ·exact dV_ (S:=fun w1 w2=>Below w1.heap.size w1 w2) (fun w _=>Below.refl _ w) 4 hinv (qa_ rfl) (NN.qk_ rfl) (hinv.old' 5) trivial
  ·exact qbn_ (V:=fun v w'=>HeadsR w' v T) (C:=(fun w'=>Below v3.heap.size v3 w')) (S:=fun w1 w2=>Below w1.heap.size w1 w2) (R:=fun v' w'=>AnsR bt bm tip (.slice pa pn pc) stop most T 5 v' w') (J:=fun _ _=>True) (qa_ rfl) (f:=17) (args:=#[a'.eval (.tmp 31),a'.eval (.tmp 32),a'.eval (.tmp 33),a'.eval (.tmp 34),a'.eval (.tmp 35)]) (by kernel_rfl) (by rw[show a'.eval (.tmp 31)=_ from (gd_ hinv hdep 0 31)];rw[show a'.eval (.tmp 32)=_ from (gd_ hinv hdep 1 32)];rw[show a'.eval (.tmp 33)=_ from (gd_ hinv hdep 2 33)];rw[show a'.eval (.tmp 34)=_ from (gd_ hinv hdep 3 34)];rw[show a'.eval (.tmp 35)=_ from (gd_ hinv hdep 4 35)];exact KP.out wx hC) (fun v w' hv hb=>⟨tb_ hC hb,hb,hv,trivial⟩)
  ·exact dV_ (S:=fun w1 w2=>Below w1.heap.size w1 w2) (fun w _=>Below.refl _ w) 6 hinv (qa_ rfl) (NN.qk_ rfl) (hinv.old' 14) trivial
  ·exact dV_ (S:=fun w1 w2=>Below w1.heap.size w1 w2) (fun w _=>Below.refl _ w) 7 hinv (qa_ rfl) (NN.qk_ rfl) (hinv.old' 2) trivial
  ·exact dV_ (S:=fun w1 w2=>Below w1.heap.size w1 w2) (fun w _=>Below.refl _ w) 8 hinv (qa_ rfl) (NN.qk_ rfl) (hinv.old' 3) trivial
  ·exact dV_ (S:=fun w1 w2=>Below w1.heap.size w1 w2) (fun w _=>Below.refl _ w) 9 hinv (qa_ rfl) (qdp_ rfl (hinv.old' 10) (qcx_ hIx) h32) rfl trivial
  ·exact dV_ (S:=fun w1 w2=>Below w1.heap.size w1 w2) (fun w _=>Below.refl _ w) 10 hinv (qa_ rfl) (NN.qk_ rfl) (hinv.old' 5) trivial
  ·exact qbn_ (V:=fun v w'=>HeadsR w' v T) (C:=(fun w'=>Below v3.heap.size v3 w')) (S:=fun w1 w2=>Below w1.heap.size w1 w2) (R:=fun v' w'=>AnsR bt bm tip (.slice pa pn pc) stop most T 11 v' w') (J:=fun _ _=>True) (qa_ rfl) (f:=19) (args:=#[a'.eval (.tmp 37),a'.eval (.tmp 38),a'.eval (.tmp 39),a'.eval (.tmp 40),a'.eval (.tmp 41)]) (by kernel_rfl) (by rw[show a'.eval (.tmp 37)=_ from (gd_ hinv hdep 6 37)];rw[show a'.eval (.tmp 38)=_ from (gd_ hinv hdep 7 38)];rw[show a'.eval (.tmp 39)=_ from (gd_ hinv hdep 8 39)];rw[show a'.eval (.tmp 40)=_ from (gd_ hinv hdep 9 40)];rw[show a'.eval (.tmp 41)=_ from (gd_ hinv hdep 10 41)];exact KR.out wx hC) (fun v w' hv hb=>⟨tb_ hC hb,hb,hv,trivial⟩)
  ·obtain ⟨a1,c1,e1,_,hH1⟩:HeadsR wx (a'.eval (.tmp 36)) T:=(gd_ hinv hdep 5 36)
   obtain ⟨a2,c2,e2,_,hH2⟩:HeadsR wx (a'.eval (.tmp 42)) T:=(gd_ hinv hdep 11 42)
   exact dC_ (S:=fun w1 w2=>Below w1.heap.size w1 w2) 12 hinv (qa_ rfl) (f:=18) (args:=#[a'.eval (.tmp 36),a'.eval (.tmp 42)]) (by kernel_rfl) (by rw[e1,e2];exact qms_ a1 a2 T.length c1 c2 T rfl HTl.out wx hH1 hH2) (fun w' hb=>⟨tb_ hC hb,hb,rfl,trivial⟩)
  ·exact dV_ (S:=fun w1 w2=>Below w1.heap.size w1 w2) (fun w _=>Below.refl _ w) 13 hinv (qa_ rfl) (NN.qah_ rfl) (gd_ hinv hdep 12 43) trivial
 ·intro listed a' v9 hall hinv
  have hC:=hinv.c
  have e12:a'.eval (.tmp 12) = .bool true:=hinv.got 13 _ 12 rfl (hall 13 (by decide)) rfl
  obtain ⟨u,hu⟩:∃ u:Nat->Value,∀ t,u t=a'.eval (.tmp t):=⟨_,fun _=>rfl⟩
  rw[qav_ a' 44 u hinv.tsize hinv.defers hu]
  rw[<-hu] at e12
  clear hu hinv hall
  simp only[List.range,List.range.loop,List.map_cons,List.map_nil]
  rw[e12]
  clear e12
  go_wp2_with fail
  go_ret
  exact ⟨rfl,tb_ HB3.out hC⟩
theorem qmx_ (p:NN.Pr) (hp:p.ok) (h1:p.one) (t:Tl) (tt:p.tl=t.C) (ht:t.ok) (gs:List Gt) (cs:List Ck) (hgn:t.gn=gs.length) (hcn:t.cn=cs.length) (a:Option Addr) (ls:List Cm) (n c:Nat) (hn:n=ls.length) (hl:n<=4611686018427387904) (hnow:∀ x ∈ ls,-9223372036854775808<=x.now/\x.now<=9223372036854775807) (tip:Int) (pa:Option Addr) (ids:List (List UInt8)) (pn pc:Nat) (hpn:pn=ids.length) (_:pn<=4611686018427387904) (stop:List UInt8) (h32:stop.length=32) (most:Int) (w:World) (hT:Tab w) (hA:ComesAt w a ls) (hG:GatesAt w t.ga gs) (hC:ChecksAt w t.ca cs) (hP:NamesAt w pa ids) :
  Ca_ 4 #[.agg (NN.prA p),.slice a n c,.int .i64 tip,.slice pa pn pc,.agg (bytesV stop),.int .i64 most] w (.bool true):=by
 have KA:HK_ w 7 #[] (.bool true):=h_ fun w' _=>alive14 w'
 have KG:∀ g,grt13 p t gs cs ls=g->HK_ w 8 #[.agg (NN.prA p),.slice a n c] (.bool g):=fun g hg=>h_ fun w' hb=>quw_ p hp t tt ht gs cs hgn hcn ls n a c hn hl g hg w' (hA.below hb) (hG.below hb) (hC.below hb)
 cases hg:grt13 p t gs cs ls
 ·have KG1:=KG false hg
  have KGr:Hid (∀w',Below w.heap.size w w'->Calls Tryz.prog 9 #[.agg (NN.prA p),.slice a n c] w' fun e w''=>∃ bt bm,e = .returned (.tuple #[.pointer (some ⟨bt,0,none⟩),.pointer (some ⟨bm,0,none⟩)])/\GrownP w' w'' ⟨p,t.g,gs,cs,100⟩ 41 bt bm/\Below w'.heap.size w' w''):=h_ fun w' hb=>qkx_ p hp h1 t tt ht gs cs hgn hcn a ls n c hn hnow hg w' (hT.below hb) (hA.below hb) (hG.below hb) (hC.below hb)
  by_cases hlong:40<pn
  ·exact grp3_.2 p hp a n c w tip pa pn pc stop most (decide_eq_true (by omega)) KA KG1
  ·exact qmw_ p hp ⟨p,t.g,gs,cs,100⟩ a n c w tip pa pn pc stop most h32 ids (h_ hpn) (by omega) (decide_eq_false (by omega)) (h_ fun w' hb=>hP.below hb) KA KG1 KGr
 ·have KG1:=KG true hg
  exact grp3_.1 p hp a n c w tip pa pn pc stop most KA KG1
end Go.Proofs.YtcppnfkjklhhdaaGreatDoor.An
namespace Go.Proofs.YtcppnfkjklhhdaaGreatDoor.An
open Go.RowKit Mem Sc NN.Rg2
open Ar (Ent Ru entZ Ok Row RwT isP loc nm fk)
section
variable {ρ:Operand->Value} {o:Oper} {w:World}
theorem qmy_:Tryz.prog.eqGuardType Tryz.prog.depth 28=false:=by kernel_rfl
theorem qzk_ {x:Operand} {a:Option Addr} {n c:Nat} (ho:o.op = .call { callee:=.builtin .len,args:=#[x],argTypes:=#[34] }) (hx:ρ x = .slice a n c):(execOp ρ o).run Tryz.prog w = .ok (.value (.int .i64 (n:Int))) w:=by
 unfold execOp
 simp only[ho,resolve,invoke,builtin,Sem.run_bind,Sem.run_pure,Result.andThen_ok,List.map_toArray,List.map_cons,List.map_nil,hx]
 kernel_rfl
theorem qqw_ (w:World) (g f j n c:Nat) (hj:j<n):(Instr.indexAt 34 (.slice (some ⟨g,f,none⟩) n c) (.int .i64 (j:Int))).run Tryz.prog w = .ok (.pointer (some ⟨g,f+j*32,none⟩)) w:=by
 go_simp
theorem qvg_ {T:TypeId} {x y:Operand} {g f j m:Nat} {n c:Nat} (ho:o.op = .indexAddr T x y) (hx:ρ x = .slice (some ⟨g,f,none⟩) n c) (hy:ρ y = .int .i64 (j:Int)) (hf:(Instr.indexAt T (.slice (some ⟨g,f,none⟩) n c) (.int .i64 (j:Int))).run Tryz.prog w = .ok (.pointer (some ⟨g,m,none⟩)) w):(execOp ρ o).run Tryz.prog w = .ok (.value (.pointer (some ⟨g,m,none⟩))) w:=by
 unfold execOp
 simp only[ho,hx,hy,Sem.run_bind,hf,Result.andThen_ok]
 rfl
end
theorem qpb_ (w:World):NamesR w (.slice none 0 0) []:=⟨none,0,rfl,Nat.le_refl _,fun h=>by simp at h⟩
structure NmQ (v3:World) (bt bm:Nat) (tip i:Int) (ids:List (List UInt8)) (nn:Nat) (f:Int):Prop where
 len:ids.length=nn
 few:nn<=900
 l32:∀ x ∈ ids,x.length=32
 lo:∀ w',Below v3.heap.size v3 w'->Calls Tryz.prog 10 #[.pointer (some ⟨bt,0,none⟩),.int .i64 i] w' fun x w''=>∃ v,x = .returned v/\NamesR w'' v ids/\Below w'.heap.size w' w''
 rlo:∀ w',Below v3.heap.size v3 w'->Calls Tryz.prog 12 #[.pointer (some ⟨bm,0,none⟩),.int .i64 i] w' fun x w''=>∃ v,x = .returned v/\NamesR w'' v ids/\Below w'.heap.size w' w''
 fo:∀ w',Below v3.heap.size v3 w'->∀ a c,NamesAt w' a ids->Calls Tryz.prog 14 #[.pointer (some ⟨bt,0,none⟩),.int .i64 tip,.slice a nn c] w' fun e w''=>e = .returned (.int .i64 f)/\Below w'.heap.size w' w''
 rfo:∀ w',Below v3.heap.size v3 w'->∀ a c,NamesAt w' a ids->Calls Tryz.prog 15 #[.pointer (some ⟨bm,0,none⟩),.int .i64 tip,.slice a nn c] w' fun e w''=>e = .returned (.int .i64 f)/\Below w'.heap.size w' w''
theorem nmq_of {v3:World} {bt bm:Nat} {F Fm:Nat->Prop} {B:Nat} {r:Ru} {M:List Ent} {lp:List Int} (hS:TrS v3 F bt r M lp) (hR:RfS v3 B Fm bm r M) (hlp:lp.length=M.length) (hM:Ok r M) (hl:M.length<=41) (tip:Int) {K:List Int} (hK:RwT M tip K) (i:Int):∃ ids nn f,NmQ v3 bt bm tip i ids nn f/\(isP M i->0<nn/\ids[nn - 1]?=some r.g.id):=by
 by_cases hp:isP M i
 ·obtain ⟨j,e,rfl,he⟩:=hp.is
  obtain ⟨L,hL,hLl⟩:=hM.row he
  have hc:=(hM.chain j e he).1
  have hj:=(List.getElem?_eq_some_iff.1 he).1
  have hln:=Ar.qes_ r M L
  have h9:(loc r M L).length<=900:=by
   have:=Ht.hts_len 0 (L.length - 1)
   rw[hln]
   omega
  refine ⟨loc r M L,(loc r M L).length,fk r M K (loc r M L),⟨rfl,h9,Ar.loc_32,fun w' hb=>quz_ (hS.below hb) hM (by omega) hlp j e he L hL,fun w' hb=>qqt_ (hR.below hb) hM (by omega) j e he L hL,fun w' hb a c hN=>qox_ (hS.below hb) hM (by omega) hlp tip K hK a _ c _ rfl (by omega) hN,fun w' hb a c hN=>qje_ (hR.below hb) hM (by omega) tip K hK a _ c _ rfl (by omega) hN⟩,fun _=>⟨by rw[hln];exact Ht.hts_pos _ _,Ar.qafx_ hM he hL⟩⟩
 ·refine ⟨[],0,fk r M K [],⟨rfl,by omega,fun x hx=>(by cases hx),fun w' hb=>(qqo_ (hS.below hb) i hp).mono ?_,fun w' hb=>(qmu_ (hR.below hb) hM i hp).mono ?_,fun w' hb a c hN=>qox_ (hS.below hb) hM (by omega) hlp tip K hK a 0 c [] rfl (by omega) hN,fun w' hb a c hN=>qje_ (hR.below hb) hM (by omega) tip K hK a 0 c [] rfl (by omega) hN⟩,fun h=>absurd h hp⟩
  ·rintro x w'' ⟨rfl,hb⟩
   exact ⟨_,rfl,qpb_ _,hb⟩
  ·rintro x w'' ⟨rfl,hb⟩
   exact ⟨_,rfl,qpb_ _,hb⟩
def NmR (bt bm bP:Nat) (tip:Int) (i:Nat) (nv:Value) (nn q ab ao:Nat) (ids:List (List UInt8)) (g:Hd) (f:Int):Nat->Value->World->Prop
 | 0,v,_|7,v,_|8,v,_|21,v,_|25,v,_=>v=nv
 | 1,v,_|23,v,_=>v = .pointer (some ⟨bm,0,none⟩)
 | 2,v,_=>v = .int .i64 (i:Int)
 | 3,v,w=>NamesR w v ids
 | 4,v,_=>v = .bool true
 | 5,v,_|6,v,_|16,v,_|17,v,_|18,v,_|27,v,_|28,v,_=>v = .bool false
 | 9,v,_=>v = .int .i64 (nn:Int)
 | 10,v,_=>v = .int .i64 (q:Int)
 | 11,v,_=>v = .pointer (some ⟨ab,ao+q*32,none⟩)
 | 12,v,_|15,v,_=>v = .agg (bytesV g.id)
 | 13,v,_=>v = .pointer (some ⟨bP,15,none⟩)
 | 14,v,_=>v = .agg (hdA g)
 | 19,v,_=>v = .pointer (some ⟨bt,0,none⟩)
 | 20,v,_|24,v,_=>v = .int .i64 tip
 | 22,v,_|26,v,_=>v = .int .i64 f
 | _,_,_=>True
theorem NmR.below {bt bm bP:Nat} {tip:Int} {i:Nat} {nv:Value} {nn q ab ao:Nat} {ids:List (List UInt8)} {g:Hd} {f:Int}:∀ (k:Nat) (v:Value) (w w':World),Below w.heap.size w w'->NmR bt bm bP tip i nv nn q ab ao ids g f k v w->NmR bt bm bP tip i nv nn q ab ao ids g f k v w'
 | 3,_,_,_,hb,h=>NamesR.below h hb
 | 0,_,_,_,_,h=>h
 | 1,_,_,_,_,h=>h
 | 2,_,_,_,_,h=>h
 | 4,_,_,_,_,h=>h
 | 5,_,_,_,_,h=>h
 | 6,_,_,_,_,h=>h
 | 7,_,_,_,_,h=>h
 | 8,_,_,_,_,h=>h
 | 9,_,_,_,_,h=>h
 | 10,_,_,_,_,h=>h
 | 11,_,_,_,_,h=>h
 | 12,_,_,_,_,h=>h
 | 13,_,_,_,_,h=>h
 | 14,_,_,_,_,h=>h
 | 15,_,_,_,_,h=>h
 | 16,_,_,_,_,h=>h
 | 17,_,_,_,_,h=>h
 | 18,_,_,_,_,h=>h
 | 19,_,_,_,_,h=>h
 | 20,_,_,_,_,h=>h
 | 21,_,_,_,_,h=>h
 | 22,_,_,_,_,h=>h
 | 23,_,_,_,_,h=>h
 | 24,_,_,_,_,h=>h
 | 25,_,_,_,_,h=>h
 | 26,_,_,_,_,h=>h
 | 27,_,_,_,_,h=>h
 | 28,_,_,_,_,h=>h
 | _+29,_,_,_,_,_=>trivial
set_option maxHeartbeats 8000000 in
theorem grp4_:(∀(p:NN.Pr) (_hp:p.ok) (a:Option Addr) (n c:Nat) (w:World) (at_ tip:Int) (pa:Option Addr) (pn pc:Nat) (_KA:HK_ w 7 #[] (.bool true)) (_KG:HK_ w 8 #[.agg (NN.prA p),.slice a n c] (.bool true)),Ca_ 3 #[.agg (NN.prA p),.slice a n c,.int .i64 at_,.int .i64 tip,.slice pa pn pc] w (.bool true))/\
  (∀(p:NN.Pr) (_hp:p.ok) (a:Option Addr) (n c:Nat) (w:World) (at_ tip:Int) (pa:Option Addr) (pn pc:Nat) (_hlong:decide ((40:Int)<(pn:Int))=true) (_KA:HK_ w 7 #[] (.bool true)) (_KG:HK_ w 8 #[.agg (NN.prA p),.slice a n c] (.bool false)),Ca_ 3 #[.agg (NN.prA p),.slice a n c,.int .i64 at_,.int .i64 tip,.slice pa pn pc] w (.bool true)):=by
 refine ⟨fun p hp a n c w at_ tip pa pn pc KA KG=>?_,
  fun p hp a n c w at_ tip pa pn pc hlong KA KG=>?_⟩
 all_goals
  have hz:=NN.qat_ hp
  go_enter Tryz.func3,Tryz.ntmps3
  go_upto_region 1 with fail
  generalize hw0:World.alloc _ _=v0
  have hB:Below w.heap.size w v0:=bl_ hw0
  have hP:NN.PrAt v0 w.heap.size p:=by rw[<-hw0];exact NN.Has.new _ _
  clear hw0
  obtain ⟨bP,hbP⟩:∃ x,x=w.heap.size:=⟨_,rfl⟩
  rw[<-hbP] at hP |-
  have HBP:Hid (bP=w.heap.size):=h_ hbP
  clear hbP
  go_wp2_with (first|fail)
  refine (KA.out _ hB).mono ?_
  rintro e v1 ⟨rfl,hb⟩
  replace hP:=hP.on hb
  replace hB:=tb_ hB hb
  clear hb
  go_wp2_with (with_reducible first|refine NN.qr_ rfl _ rfl _ rfl hP hz ?_|refine NN.qm_ (by with_unfolding_all rfl) _ rfl _ rfl hP hz ?_)
  refine (KG.out _ hB).mono ?_
  rintro e v2 ⟨rfl,hb⟩
  replace hP:=hP.on hb
  replace hB:=tb_ hB hb
  clear hb
  go_wp2_with fail
  go_ret
  exact ⟨rfl,hB⟩
set_option maxHeartbeats 8000000 in
theorem qvh_ (p:NN.Pr) (hp:p.ok) (r:Ru) (a:Option Addr) (n c:Nat) (w:World) (at_ tip:Int) (pa:Option Addr) (pn pc:Nat) (t:Tl) (HTT:Hid (p.tl=t.C/\t.ok/\r.g=t.g)) (ids:List (List UInt8)) (HN:Hid (pn=ids.length)) (hn40:pn<=40) (hlong:decide ((40:Int)<(pn:Int))=false) (HA:Hid (∀w',Below w.heap.size w w'->NamesAt w' pa ids)) (HT:Hid (∀w',Below w.heap.size w w'->Tab w')) (KA:HK_ w 7 #[] (.bool true)) (KG:HK_ w 8 #[.agg (NN.prA p),.slice a n c] (.bool false)) (KGr:Hid (∀w',Below w.heap.size w w'->Calls Tryz.prog 9 #[.agg (NN.prA p),.slice a n c] w' fun e w''=>∃ bt bm,e = .returned (.tuple #[.pointer (some ⟨bt,0,none⟩),.pointer (some ⟨bm,0,none⟩)])/\GrownP w' w'' r 41 bt bm/\Below w'.heap.size w' w'')) :
  Ca_ 3 #[.agg (NN.prA p),.slice a n c,.int .i64 at_,.int .i64 tip,.slice pa pn pc] w (.bool true):=by
 have hz:=NN.qat_ hp
 go_enter Tryz.func3,Tryz.ntmps3
 go_upto_region 1 with fail
 generalize hw0:World.alloc _ _=v0
 have hB:Below w.heap.size w v0:=bl_ hw0
 have hP:NN.PrAt v0 w.heap.size p:=by rw[<-hw0];exact NN.Has.new _ _
 clear hw0
 obtain ⟨bP,hbP⟩:∃ x,x=w.heap.size:=⟨_,rfl⟩
 rw[<-hbP] at hP |-
 have HBP:Hid (bP=w.heap.size):=h_ hbP
 clear hbP
 go_wp2_with (first|fail)
 refine (KA.out _ hB).mono ?_
 rintro e v1 ⟨rfl,hb⟩
 replace hP:=hP.on hb
 replace hB:=tb_ hB hb
 clear hb
 go_wp2_with (with_reducible first|refine NN.qr_ rfl _ rfl _ rfl hP hz ?_|refine NN.qm_ (by with_unfolding_all rfl) _ rfl _ rfl hP hz ?_)
 refine (KG.out _ hB).mono ?_
 rintro e v2 ⟨rfl,hb⟩
 replace hP:=hP.on hb
 replace hB:=tb_ hB hb
 clear hb
 go_wp2_with (first|fail|(with_reducible refine NN.qr_ rfl _ rfl _ rfl hP hz ?_))
 refine (KGr.out _ hB).mono ?_
 rintro e v3 ⟨bt,bm,rfl,hGr,hb⟩
 replace hP:=hP.on hb
 replace hB:=tb_ hB hb
 clear hb KGr
 obtain ⟨F,Fm,M,lp,hS,hR,hlp,hM,hl⟩:=hGr
 obtain ⟨ah,ch,c83⟩:=hR.list
 obtain ⟨K,hK⟩:=RwT.ex hM tip
 have KI:Hid (∀i:Nat,i<M.length->∃ ids nn f,NmQ v3 bt bm tip (i:Int) ids nn f/\0<nn/\ids[nn - 1]?=some r.g.id):=h_ fun i hi=>by
  obtain ⟨ids,nn,f,h1,h2⟩:=nmq_of hS hR hlp hM hl tip hK (i:Int)
  have h3:=h2 ⟨by omega,by omega⟩
  exact ⟨ids,nn,f,h1,h3.1,h3.2⟩
 have KAt:Hid (∃ids nn f,NmQ v3 bt bm tip at_ ids nn f):=h_ (by
  obtain ⟨ids,nn,f,h1,_⟩:=nmq_of hS hR hlp hM hl tip hK at_
  exact ⟨ids,nn,f,h1⟩)
 have KF:Hid (∀w',Below v3.heap.size v3 w'->Calls Tryz.prog 14 #[.pointer (some ⟨bt,0,none⟩),.int .i64 tip,.slice pa pn pc] w' fun e w''=>e = .returned (.int .i64 (fk r M K ids))/\Below w'.heap.size w' w''):=h_ fun w' hb=>qox_ (hS.below hb) hM (by omega) hlp tip K hK pa pn pc ids HN.out (by omega) (HA.out _ (tb_ hB hb))
 have KRF:Hid (∀w',Below v3.heap.size v3 w'->Calls Tryz.prog 15 #[.pointer (some ⟨bm,0,none⟩),.int .i64 tip,.slice pa pn pc] w' fun e w''=>e = .returned (.int .i64 (fk r M K ids))/\Below w'.heap.size w' w''):=h_ fun w' hb=>qje_ (hR.below hb) hM (by omega) tip K hK pa pn pc ids HN.out (by omega) (HA.out _ (tb_ hB hb))
 have HB0:=h_ hB
 have HPP:=h_ fun (w':World) (hb:Below v3.heap.size v3 w')=>NN.PrAt.on hP hb
 have hb:=Below.refl v3.heap.size v3
 clear hS hR hM hlp hB hP hK
 generalize M.length=m at *
 generalize fk r M K ids=f0 at *
 go_wp2_with fail
 clear c83
 go_loopw [38] (fun u wr=>∃ i:Nat,i<=m/\u = .int .i64 (i:Int)/\Below v3.heap.size v3 wr) (fun u _=>m - (intOf u).toNat)
 case atStart=>exact ⟨0,by omega,rfl,hb⟩
 case round=>
  clear hb
  obtain ⟨i,hi,rfl,hb⟩:=hrel
  by_cases hlt:i<m
  ·obtain ⟨idl,nn,f,hQ,hpos,hlast⟩:=KI.out i hlt
   have HQ:=h_ hQ
   have HLast:=h_ hlast
   have h9:=hQ.few
   have HLN:=h_ hQ.len
   clear hQ hlast
   go_wp2_with fail
   refine (HQ.out.lo _ hb).mono ?_
   rintro e v5 ⟨v,rfl,⟨la,lc,rfl,hlc,hN⟩,hb9⟩
   replace hb:=tb_ hb hb9
   clear hb9
   rw[HLN.out] at hlc |-
   obtain ⟨ab,ao,rfl,habl,_⟩:=hN (by rw[HLN.out];exact hpos)
   have HNx:=h_ fun (w':World) (hb':Below v5.heap.size v5 w')=>hN.below hb'
   obtain ⟨q,hq⟩:∃ q,q=nn - 1:=⟨_,rfl⟩
   have hqn:q<nn:=by omega
   have hw1:IntKind.i64.wrap ((nn:Int) - 1)=(q:Int):=by rw[IntKind.wrap_i64];omega
   have hgo:=HTT.out.2.1.2
   have l0:=qo_ t.g
   have HLq:Hid (∀w',Below v5.heap.size v5 w'->w'.rangeAt ab (ao+q*32) (Lib.byteCells t.g.id)):=h_ fun w' hb'=>by
    obtain ⟨ab2,ao2,e2,_,hc⟩:=HNx.out w' hb' (by rw[HLN.out];exact hpos)
    cases e2
    have h1:=HLast.out
    rw[<-hq,HTT.out.2.2] at h1
    obtain ⟨u1,u2⟩:=List.getElem?_eq_some_iff.1 h1
    have:=(hc q u1).2
    rwa [u2] at this
   have HB5:=h_ hb
   have hne:=hn_neq t.g.id t.g.id l0 l0 false (by simp)
   have zg:=qh_ hgo
   clear hN hq hb
   go_upto_region 10 with fail
   refine qi_ (by kernel_rfl) (fun w'=>Below v5.heap.size v5 w') (fun jx v' w'=>NmR bt bm bP tip i (.slice (some ⟨ab,ao,none⟩) nn lc) nn q ab ao idl t.g f jx v' w') (fun _ _ _=>True) (fun w1 w2=>Below w1.heap.size w1 w2) (fun w _=>Below.refl _ w) (fun i v w w' _ hb h=>NmR.below i v w w' hb h) (by kernel_rfl) (Below.refl _ _).drew (fun _ _=>trivial) ?_ ?_
   ·intro ix o listed a' wx ho' hnl hdep hinv
    have hC:=hinv.c
    have hix:ix<29:=(Array.getElem?_eq_some_iff.1 ho').1
    have hCx:=tb_ HB5.out hC
    have hNx:=HNx.out wx hC
    have hPx:=HPP.out wx hCx
    obtain rfl|rfl|rfl|rfl|rfl|rfl|rfl|rfl|rfl|rfl|rfl|rfl|rfl|rfl|rfl|rfl|rfl|rfl|rfl|rfl|rfl|rfl|rfl|rfl|rfl|rfl|rfl|rfl|rfl:ix=0\/ix=1\/ix=2\/ix=3\/ix=4\/ix=5\/ix=6\/ix=7\/ix=8\/ix=9\/ix=10\/ix=11\/ix=12\/ix=13\/ix=14\/ix=15\/ix=16\/ix=17\/ix=18\/ix=19\/ix=20\/ix=21\/ix=22\/ix=23\/ix=24\/ix=25\/ix=26\/ix=27\/ix=28:=by omega
    all_goals obtain rfl:=Option.some.inj ho'
    ·exact dV_ (S:=fun w1 w2=>Below w1.heap.size w1 w2) (fun w _=>Below.refl _ w) 0 hinv (qa_ rfl) (NN.qk_ rfl) (hinv.old' 14) trivial
    ·exact dV_ (S:=fun w1 w2=>Below w1.heap.size w1 w2) (fun w _=>Below.refl _ w) 1 hinv (qa_ rfl) (NN.qk_ rfl) (hinv.old' 12) trivial
    ·exact dV_ (S:=fun w1 w2=>Below w1.heap.size w1 w2) (fun w _=>Below.refl _ w) 2 hinv (qa_ rfl) (NN.qk_ rfl) (hinv.old' 13) trivial
    ·exact qbn_ (V:=fun v w'=>NamesR w' v idl) (C:=(fun w'=>Below v5.heap.size v5 w')) (S:=fun w1 w2=>Below w1.heap.size w1 w2) (R:=fun v' w'=>NmR bt bm bP tip i (.slice (some ⟨ab,ao,none⟩) nn lc) nn q ab ao idl t.g f 3 v' w') (J:=fun _ _=>True) (qa_ rfl) (f:=12) (args:=#[a'.eval (.tmp 45),a'.eval (.tmp 46)]) (by kernel_rfl) (by rw[show a'.eval (.tmp 45)=_ from (gd_ hinv hdep 1 45)];rw[show a'.eval (.tmp 46)=_ from (gd_ hinv hdep 2 46)];exact HQ.out.rlo wx hCx) (fun v w' hv hb=>⟨tb_ hC hb,hb,hv,trivial⟩)
    ·obtain ⟨a2,c2,e2,_,hN2⟩:NamesR wx (a'.eval (.tmp 47)) idl:=(gd_ hinv hdep 3 47)
     rw[HLN.out] at e2
     exact dC_ (S:=fun w1 w2=>Below w1.heap.size w1 w2) 4 hinv (qa_ rfl) (f:=11) (args:=#[a'.eval (.tmp 44),a'.eval (.tmp 47)]) (by kernel_rfl) (by rw[show a'.eval (.tmp 44)=_ from (gd_ hinv hdep 0 44),e2];exact qkz_ _ a2 nn lc c2 idl HLN.out.symm (by omega) wx hNx hN2) (fun w' hb=>⟨tb_ hC hb,hb,rfl,trivial⟩)
    ·exact dV_ (S:=fun w1 w2=>Below w1.heap.size w1 w2) (fun w _=>Below.refl _ w) 5 hinv (qa_ rfl) (ex_nots rfl (gd_ hinv hdep 4 48)) rfl trivial
    ·exact dV_ (S:=fun w1 w2=>Below w1.heap.size w1 w2) (fun w _=>Below.refl _ w) 6 hinv (qa_ rfl) (NN.qk_ rfl) (gd_ hinv hdep 5 49) trivial
    ·exact dV_ (S:=fun w1 w2=>Below w1.heap.size w1 w2) (fun w _=>Below.refl _ w) 7 hinv (gy_ hinv hdep 6 50 rfl) (NN.qk_ rfl) (hinv.old' 14) trivial
    ·exact dV_ (S:=fun w1 w2=>Below w1.heap.size w1 w2) (fun w _=>Below.refl _ w) 8 hinv (gy_ hinv hdep 6 50 rfl) (NN.qk_ rfl) (hinv.old' 14) trivial
    ·exact dV_ (S:=fun w1 w2=>Below w1.heap.size w1 w2) (fun w _=>Below.refl _ w) 9 hinv (gy_ hinv hdep 6 50 rfl) (qzk_ rfl (gd_ hinv hdep 8 52)) rfl trivial
    ·exact dV_ (S:=fun w1 w2=>Below w1.heap.size w1 w2) (fun w _=>Below.refl _ w) 10 hinv (gy_ hinv hdep 6 50 rfl) (ex_subi rfl (gd_ hinv hdep 9 53) rfl hw1) rfl trivial
    ·exact dV_ (S:=fun w1 w2=>Below w1.heap.size w1 w2) (fun w _=>Below.refl _ w) 11 hinv (gy_ hinv hdep 6 50 rfl) (qvg_ rfl (gd_ hinv hdep 7 51) (gd_ hinv hdep 10 54) (qqw_ wx ab ao q nn lc hqn)) rfl trivial
    ·exact dV_ (S:=fun w1 w2=>Below w1.heap.size w1 w2) (fun w _=>Below.refl _ w) 12 hinv (gy_ hinv hdep 6 50 rfl) (qdp_ rfl (gd_ hinv hdep 11 55) (HLq.out wx hC) l0) rfl trivial
    ·exact dV_ (S:=fun w1 w2=>Below w1.heap.size w1 w2) (fun w _=>Below.refl _ w) 13 hinv (gy_ hinv hdep 6 50 rfl) (qaj_ rfl (hinv.old' 5) (pfield9 wx bP)) rfl trivial
    ·exact dV_ (S:=fun w1 w2=>Below w1.heap.size w1 w2) (fun w _=>Below.refl _ w) 14 hinv (gy_ hinv hdep 6 50 rfl) (qcc_ rfl (gd_ hinv hdep 13 57) (pr_gen hPx HTT.out.1 HTT.out.2.1) zg) rfl trivial
    ·exact dC_ (S:=fun w1 w2=>Below w1.heap.size w1 w2) 15 hinv (gy_ hinv hdep 6 50 rfl) (f:=13) (args:=#[a'.eval (.tmp 58)]) (by kernel_rfl) (by rw[show a'.eval (.tmp 58)=_ from (gd_ hinv hdep 14 58)];exact rid_at t.g hgo wx) (fun w' hb=>⟨tb_ hC hb,hb,rfl,trivial⟩)
    ·exact dV_ (S:=fun w1 w2=>Below w1.heap.size w1 w2) (fun w _=>Below.refl _ w) 16 hinv (gy_ hinv hdep 6 50 rfl) (ex_neqs qmy_ rfl (gd_ hinv hdep 12 56) (gd_ hinv hdep 15 59) hne) rfl trivial
    ·exact dV_ (S:=fun w1 w2=>Below w1.heap.size w1 w2) (fun w _=>Below.refl _ w) 17 hinv (qa_ rfl) (qnn_ rfl (gd_ hinv hdep 6 50)) (by rw[if_neg (by simp)];exact (gd_ hinv hdep 16 60)) trivial
    ·exact dV_ (S:=fun w1 w2=>Below w1.heap.size w1 w2) (fun w _=>Below.refl _ w) 18 hinv (qa_ rfl) (NN.qk_ rfl) (gd_ hinv hdep 17 61) trivial
    ·exact dV_ (S:=fun w1 w2=>Below w1.heap.size w1 w2) (fun w _=>Below.refl _ w) 19 hinv (gy_ hinv hdep 18 62 rfl) (NN.qk_ rfl) (hinv.old' 11) trivial
    ·exact dV_ (S:=fun w1 w2=>Below w1.heap.size w1 w2) (fun w _=>Below.refl _ w) 20 hinv (gy_ hinv hdep 18 62 rfl) (NN.qk_ rfl) (hinv.old' 3) trivial
    ·exact dV_ (S:=fun w1 w2=>Below w1.heap.size w1 w2) (fun w _=>Below.refl _ w) 21 hinv (gy_ hinv hdep 18 62 rfl) (NN.qk_ rfl) (hinv.old' 14) trivial
    ·exact dC_ (S:=fun w1 w2=>Below w1.heap.size w1 w2) 22 hinv (gy_ hinv hdep 18 62 rfl) (f:=14) (args:=#[a'.eval (.tmp 63),a'.eval (.tmp 64),a'.eval (.tmp 65)]) (by kernel_rfl) (by rw[show a'.eval (.tmp 63)=_ from (gd_ hinv hdep 19 63)];rw[show a'.eval (.tmp 64)=_ from (gd_ hinv hdep 20 64)];rw[show a'.eval (.tmp 65)=_ from (gd_ hinv hdep 21 65)];exact HQ.out.fo wx hCx _ lc hNx) (fun w' hb=>⟨tb_ hC hb,hb,rfl,trivial⟩)
    ·exact dV_ (S:=fun w1 w2=>Below w1.heap.size w1 w2) (fun w _=>Below.refl _ w) 23 hinv (gy_ hinv hdep 18 62 rfl) (NN.qk_ rfl) (hinv.old' 12) trivial
    ·exact dV_ (S:=fun w1 w2=>Below w1.heap.size w1 w2) (fun w _=>Below.refl _ w) 24 hinv (gy_ hinv hdep 18 62 rfl) (NN.qk_ rfl) (hinv.old' 3) trivial
    ·exact dV_ (S:=fun w1 w2=>Below w1.heap.size w1 w2) (fun w _=>Below.refl _ w) 25 hinv (gy_ hinv hdep 18 62 rfl) (NN.qk_ rfl) (hinv.old' 14) trivial
    ·exact dC_ (S:=fun w1 w2=>Below w1.heap.size w1 w2) 26 hinv (gy_ hinv hdep 18 62 rfl) (f:=15) (args:=#[a'.eval (.tmp 67),a'.eval (.tmp 68),a'.eval (.tmp 69)]) (by kernel_rfl) (by rw[show a'.eval (.tmp 67)=_ from (gd_ hinv hdep 23 67)];rw[show a'.eval (.tmp 68)=_ from (gd_ hinv hdep 24 68)];rw[show a'.eval (.tmp 69)=_ from (gd_ hinv hdep 25 69)];exact HQ.out.rfo wx hCx _ lc hNx) (fun w' hb=>⟨tb_ hC hb,hb,rfl,trivial⟩)
    ·exact dV_ (S:=fun w1 w2=>Below w1.heap.size w1 w2) (fun w _=>Below.refl _ w) 27 hinv (gy_ hinv hdep 18 62 rfl) (ex_neqi rfl (gd_ hinv hdep 22 66) (gd_ hinv hdep 26 70)) (congrArg Value.bool (by simp)) trivial
    ·exact dV_ (S:=fun w1 w2=>Below w1.heap.size w1 w2) (fun w _=>Below.refl _ w) 28 hinv (qa_ rfl) (qnn_ rfl (gd_ hinv hdep 18 62)) (by rw[if_neg (by simp)];exact (gd_ hinv hdep 27 71)) trivial
   ·intro listed a' v9 hall hinv
    have hC:=hinv.c
    have e72:a'.eval (.tmp 72) = .bool false:=hinv.got 28 _ 72 rfl (hall 28 (by decide)) rfl
    obtain ⟨u,hu⟩:∃ u:Nat->Value,∀ t,u t=a'.eval (.tmp t):=⟨_,fun _=>rfl⟩
    rw[qav_ a' 124 u hinv.tsize hinv.defers hu]
    have f0:=hinv.old' 0
    have f1:=hinv.old' 1
    have f2:=hinv.old' 2
    have f3:=hinv.old' 3
    have f4:=hinv.old' 4
    have f5:=hinv.old' 5
    have f6:=hinv.old' 6
    have f7:=hinv.old' 7
    have f8:=hinv.old' 8
    have f9:=hinv.old' 9
    have f10:=hinv.old' 10
    have f11:=hinv.old' 11
    have f12:=hinv.old' 12
    have f13:=hinv.old' 13
    have f14:=hinv.old' 14
    have f15:=hinv.old' 15
    have f16:=hinv.old' 16
    have f17:=hinv.old' 17
    have f18:=hinv.old' 18
    have f19:=hinv.old' 19
    have f20:=hinv.old' 20
    have f21:=hinv.old' 21
    have f22:=hinv.old' 22
    have f23:=hinv.old' 23
    have f24:=hinv.old' 24
    have f25:=hinv.old' 25
    have f26:=hinv.old' 26
    have f27:=hinv.old' 27
    have f28:=hinv.old' 28
    have f29:=hinv.old' 29
    have f30:=hinv.old' 30
    have f31:=hinv.old' 31
    have f32:=hinv.old' 32
    have f33:=hinv.old' 33
    have f34:=hinv.old' 34
    have f35:=hinv.old' 35
    have f36:=hinv.old' 36
    have f37:=hinv.old' 37
    have f38:=hinv.old' 38
    have f39:=hinv.old' 39
    have f40:=hinv.old' 40
    have f41:=hinv.old' 41
    have f42:=hinv.old' 42
    have f43:=hinv.old' 43
    have f73:=hinv.old' 73
    have f74:=hinv.old' 74
    have f75:=hinv.old' 75
    have f76:=hinv.old' 76
    have f77:=hinv.old' 77
    have f78:=hinv.old' 78
    have f79:=hinv.old' 79
    have f80:=hinv.old' 80
    have f81:=hinv.old' 81
    have f82:=hinv.old' 82
    have f83:=hinv.old' 83
    have f84:=hinv.old' 84
    have f85:=hinv.old' 85
    have f86:=hinv.old' 86
    have f87:=hinv.old' 87
    have f88:=hinv.old' 88
    have f89:=hinv.old' 89
    have f90:=hinv.old' 90
    have f91:=hinv.old' 91
    have f92:=hinv.old' 92
    have f93:=hinv.old' 93
    have f94:=hinv.old' 94
    have f95:=hinv.old' 95
    have f96:=hinv.old' 96
    have f97:=hinv.old' 97
    have f98:=hinv.old' 98
    have f99:=hinv.old' 99
    have f100:=hinv.old' 100
    have f101:=hinv.old' 101
    have f102:=hinv.old' 102
    have f103:=hinv.old' 103
    have f104:=hinv.old' 104
    have f105:=hinv.old' 105
    have f106:=hinv.old' 106
    have f107:=hinv.old' 107
    have f108:=hinv.old' 108
    have f109:=hinv.old' 109
    have f110:=hinv.old' 110
    have f111:=hinv.old' 111
    have f112:=hinv.old' 112
    have f113:=hinv.old' 113
    have f114:=hinv.old' 114
    have f115:=hinv.old' 115
    have f116:=hinv.old' 116
    have f117:=hinv.old' 117
    have f118:=hinv.old' 118
    have f119:=hinv.old' 119
    have f120:=hinv.old' 120
    have f121:=hinv.old' 121
    have f122:=hinv.old' 122
    have f123:=hinv.old' 123
    have f72:=e72
    simp only[<-hu] at f0 f1 f2 f3 f4 f5 f6 f7 f8 f9 f10 f11 f12 f13 f14 f15 f16 f17 f18 f19 f20 f21 f22 f23 f24 f25 f26 f27 f28 f29 f30 f31 f32 f33 f34 f35 f36 f37 f38 f39 f40 f41 f42 f43 f72 f73 f74 f75 f76 f77 f78 f79 f80 f81 f82 f83 f84 f85 f86 f87 f88 f89 f90 f91 f92 f93 f94 f95 f96 f97 f98 f99 f100 f101 f102 f103 f104 f105 f106 f107 f108 f109 f110 f111 f112 f113 f114 f115 f116 f117 f118 f119 f120 f121 f122 f123
    simp[Act.eval] at f0 f1 f2 f3 f4 f5 f6 f7 f8 f9 f10 f11 f12 f13 f14 f15 f16 f17 f18 f19 f20 f21 f22 f23 f24 f25 f26 f27 f28 f29 f30 f31 f32 f33 f34 f35 f36 f37 f38 f39 f40 f41 f42 f43 f73 f74 f75 f76 f77 f78 f79 f80 f81 f82 f83 f84 f85 f86 f87 f88 f89 f90 f91 f92 f93 f94 f95 f96 f97 f98 f99 f100 f101 f102 f103 f104 f105 f106 f107 f108 f109 f110 f111 f112 f113 f114 f115 f116 f117 f118 f119 f120 f121 f122 f123
    clear hu hinv hall
    simp only[List.range,List.range.loop,List.map_cons,List.map_nil]
    rw[f0,f1,f2,f3,f4,f5,f6,f7,f8,f9,f10,f11,f12,f13,f14,f15,f16,f17,f18,f19,f20,f21,f22,f23,f24,f25,f26,f27,f28,f29,f30,f31,f32,f33,f34,f35,f36,f37,f38,f39,f40,f41,f42,f43,f72,f73,f74,f75,f76,f77,f78,f79,f80,f81,f82,f83,f84,f85,f86,f87,f88,f89,f90,f91,f92,f93,f94,f95,f96,f97,f98,f99,f100,f101,f102,f103,f104,f105,f106,f107,f108,f109,f110,f111,f112,f113,f114,f115,f116,f117,f118,f119,f120,f121,f122,f123]
    clear f0 f1 f2 f3 f4 f5 f6 f7 f8 f9 f10 f11 f12 f13 f14 f15 f16 f17 f18 f19 f20 f21 f22 f23 f24 f25 f26 f27 f28 f29 f30 f31 f32 f33 f34 f35 f36 f37 f38 f39 f40 f41 f42 f43 f72 f73 f74 f75 f76 f77 f78 f79 f80 f81 f82 f83 f84 f85 f86 f87 f88 f89 f90 f91 f92 f93 f94 f95 f96 f97 f98 f99 f100 f101 f102 f103 f104 f105 f106 f107 f108 f109 f110 f111 f112 f113 f114 f115 f116 f117 f118 f119 f120 f121 f122 f123
    have hb:=tb_ HB5.out hC
    go_wp2_with fail
    go_roundw
    case rel=>exact ⟨i+1,by omega,by go_num,hb⟩
    case measure=>simp[intOf];omega
  ·obtain rfl:i=m:=by omega
   obtain ⟨idl,nn,f,hQ⟩:=KAt.out
   have HQ:=h_ hQ
   have HLN:=h_ hQ.len
   have h9:=hQ.few
   have hP3:=HPP.out wr hb
   have hgo:=HTT.out.2.1.2
   have zg:=qh_ hgo
   have zga:=qs_ hgo
   have rg:=pr_gen hP3 HTT.out.1 HTT.out.2.1
   have hb7:Below wr.heap.size wr (wr.alloc (.cells (hdA t.g) 30)):=(Below.refl _ _).alloc (Nat.le_refl _) _
   have hH7:HeadersAt (wr.alloc (.cells (hdA t.g) 30)) (some ⟨wr.heap.size,0,none⟩) [t.g]:=fun _=>by
    have hn:Has (wr.alloc (.cells (hdA t.g) 30)) wr.heap.size (hdA t.g) 30:=Has.new _ _
    refine ⟨wr.heap.size,0,rfl,Has.lt hn,fun k hk=>?_⟩
    obtain rfl:k=0:=by simpa using hk
    refine ⟨hgo,?_⟩
    have:=qbh_ (A:=[]) (cs:=hdC t.g) (C:=[]) (o:=0) (w:=wr.alloc (.cells (hdA t.g) 30)) (b:=wr.heap.size) (t:=30) (by rw[List.append_nil];exact hn) rfl
    exact this
   have hb37:=tb_ hb hb7
   have KKn:=h_ (qze_ t.g (some ⟨wr.heap.size,0,none⟩) 1 _ hH7 (HT.out _ (tb_ HB0.out hb37)))
   clear hb7 hH7 hP3 hb hQ
   go_wp2_with (first
    | fail
    | (with_reducible refine qaa_ rfl _ rfl bP 15 rfl t.g rg zg ?_)
    | (with_reducible refine qiv_ rfl _ rfl (hdA t.g) rfl zga ?_))
   refine KKn.out.mono ?_
   rintro e v6 ⟨rfl,hb9⟩
   have hb:=tb_ hb37 hb9
   clear hb9 hb37 KKn rg
   have HB6:=h_ hb
   clear hb
   have hb:=HB6.out
   have HNX:=h_ fun (w':World) (hb:Below v3.heap.size v3 w')=>HA.out w' (tb_ HB0.out hb)
   have tf:(f0==f0)=true:=by simp
   go_wp2_with fail
   refine (HQ.out.lo _ hb).mono ?_
   rintro e v7 ⟨v,rfl,hV1,hb9⟩
   replace hb:=tb_ hb hb9
   clear hb9
   go_wp2_with fail
   refine (HQ.out.rlo _ hb).mono ?_
   rintro e v8 ⟨v',rfl,hV2,hb9⟩
   replace hV1:=hV1.below hb9
   replace hb:=tb_ hb hb9
   clear hb9
   obtain ⟨a1,c1,rfl,_,hN1⟩:=hV1
   obtain ⟨a2,c2,rfl,_,hN2⟩:=hV2
   have KS:=h_ (qkz_ a1 a2 idl.length c1 c2 idl rfl (by rw[HLN.out];omega) v8 hN1 hN2)
   clear hN1 hN2
   go_wp2_with fail
   refine KS.out.mono ?_
   rintro e v9 ⟨rfl,hb9⟩
   replace hb:=tb_ hb hb9
   clear hb9 KS
   go_wp2_with fail
   refine (KF.out _ hb).mono ?_
   rintro e v10 ⟨rfl,hb9⟩
   replace hb:=tb_ hb hb9
   clear hb9
   go_wp2_with fail
   refine (KRF.out _ hb).mono ?_
   rintro e v11 ⟨rfl,hb9⟩
   replace hb:=tb_ hb hb9
   clear hb9
   go_wp2_with fail
   refine (qqp_ 0 _).mono ?_
   rintro e v12 ⟨rfl,hb9⟩
   replace hb:=tb_ hb hb9
   clear hb9
   go_wp2_with fail
   refine (qux_ 0 pa pn pc ids HN.out (by omega) _ (HNX.out _ hb)).mono ?_
   rintro e v13 ⟨rfl,hb9⟩
   replace hb:=tb_ hb hb9
   clear hb9
   go_wp2_with fail
   refine (qvd_ 0 pa pn pc ids HN.out (by omega) z32 5 _ (HNX.out _ hb)).mono ?_
   rintro e v14 ⟨rfl,hb9⟩
   replace hb:=tb_ hb hb9
   clear hb9
   go_wp2_with fail
   go_ret
   exact ⟨rfl,tb_ HB0.out hb⟩
theorem qvi_ (p:NN.Pr) (hp:p.ok) (h1:p.one) (t:Tl) (tt:p.tl=t.C) (ht:t.ok) (gs:List Gt) (cs:List Ck) (hgn:t.gn=gs.length) (hcn:t.cn=cs.length) (a:Option Addr) (ls:List Cm) (n c:Nat) (hn:n=ls.length) (hl:n<=4611686018427387904) (hnow:∀ x ∈ ls,-9223372036854775808<=x.now/\x.now<=9223372036854775807) (at_ tip:Int) (pa:Option Addr) (ids:List (List UInt8)) (pn pc:Nat) (hpn:pn=ids.length) (_:pn<=4611686018427387904) (w:World) (hT:Tab w) (hA:ComesAt w a ls) (hG:GatesAt w t.ga gs) (hC:ChecksAt w t.ca cs) (hP:NamesAt w pa ids) :
  Ca_ 3 #[.agg (NN.prA p),.slice a n c,.int .i64 at_,.int .i64 tip,.slice pa pn pc] w (.bool true):=by
 have KA:HK_ w 7 #[] (.bool true):=h_ fun w' _=>alive14 w'
 have KG:∀ g,grt13 p t gs cs ls=g->HK_ w 8 #[.agg (NN.prA p),.slice a n c] (.bool g):=fun g hg=>h_ fun w' hb=>quw_ p hp t tt ht gs cs hgn hcn ls n a c hn hl g hg w' (hA.below hb) (hG.below hb) (hC.below hb)
 cases hg:grt13 p t gs cs ls
 ·have KG1:=KG false hg
  have KGr:Hid (∀w',Below w.heap.size w w'->Calls Tryz.prog 9 #[.agg (NN.prA p),.slice a n c] w' fun e w''=>∃ bt bm,e = .returned (.tuple #[.pointer (some ⟨bt,0,none⟩),.pointer (some ⟨bm,0,none⟩)])/\GrownP w' w'' ⟨p,t.g,gs,cs,100⟩ 41 bt bm/\Below w'.heap.size w' w''):=h_ fun w' hb=>qkx_ p hp h1 t tt ht gs cs hgn hcn a ls n c hn hnow hg w' (hT.below hb) (hA.below hb) (hG.below hb) (hC.below hb)
  by_cases hlong:40<pn
  ·exact grp4_.2 p hp a n c w at_ tip pa pn pc (decide_eq_true (by omega)) KA KG1
  ·exact qvh_ p hp ⟨p,t.g,gs,cs,100⟩ a n c w at_ tip pa pn pc t (h_ ⟨tt,ht,rfl⟩) ids (h_ hpn) (by omega) (decide_eq_false (by omega)) (h_ fun w' hb=>hP.below hb) (h_ fun w' hb=>hT.below hb) KA KG1 KGr
 ·have KG1:=KG true hg
  exact grp4_.1 p hp a n c w at_ tip pa pn pc KA KG1
end Go.Proofs.YtcppnfkjklhhdaaGreatDoor.An
