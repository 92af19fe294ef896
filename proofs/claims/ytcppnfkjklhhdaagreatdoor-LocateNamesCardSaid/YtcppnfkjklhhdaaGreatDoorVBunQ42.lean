import Derived.Test.YtcppnfkjklhhdaaGreatDoorVIdm
import Derived.Test.YtcppnfkjklhhdaaGreatDoorVBunQ40
import Derived.Test.YtcppnfkjklhhdaaGreatDoorVBunQ41
set_option maxRecDepth 100000
set_option maxHeartbeats 4000000
namespace Go.Proofs.YtcppnfkjklhhdaaGreatDoor.An
open Go.RowKit Mem Sc
open Ar (Ent Ru entZ Ok isP IsAn)
theorem qzd_ (p:NN.Pr) (hp:p.ok) (r:Ru) (a:Option Addr) (n c:Nat) (ls:List Cm) (w:World) (HA:Hid (∀w',Below w.heap.size w w'->ComesAt w' a ls)) (HN:Hid (n=ls.length)) (hn40:n<=40) (HT:Hid (∀w',Below w.heap.size w w'->Tab w')) (KN:Hid (∀w',Below w.heap.size w w'->Calls Tryz.prog 25 #[.agg (NN.prA p),.int .i64 100] w' fun e w''=>∃ b F,e = .returned (.tuple #[.pointer (some ⟨b,0,none⟩),.int .i64 0])/\TrS w'' F b r [entZ] [-1]/\(∀i,F i->w'.heap.size<=i)/\Below w'.heap.size w' w'')) (KF:Hid (∀w',Below w.heap.size w w'->Calls Tryz.prog 26 #[.agg (NN.prA p),.int .i64 100] w' fun e w''=>∃ b,e = .returned (.pointer (some ⟨b,0,none⟩))/\RfS w'' w.heap.size (fun i=>w'.heap.size<=i/\i<w''.heap.size) b r [entZ]/\Below w'.heap.size w' w'')) (HG:Hid (r.gs.length<=1000/\r.cs.length<=1000/\2<=r.p.ivl)) (HNW:Hid (∀x ∈ ls,-9223372036854775808<=x.now/\x.now<=9223372036854775807)) :
  Calls Tryz.prog 9 #[.agg (NN.prA p),.slice a n c] w fun e w'=>∃ bt bm,e = .returned (.tuple #[.pointer (some ⟨bt,0,none⟩),.pointer (some ⟨bm,0,none⟩)])/\GrownP w w' r (n+1) bt bm/\Below w.heap.size w w':=by
 have hz:=NN.qat_ hp
 go_enter Tryz.func9,Tryz.ntmps9
 go_upto_region 1 with fail
 generalize hw0:World.alloc _ _=v0
 have hB:Below w.heap.size w v0:=bl_ hw0
 have hP:NN.PrAt v0 w.heap.size p:=by rw[<-hw0];exact NN.Has.new _ _
 clear hw0
 obtain ⟨bP,hbP⟩:∃ x,x=w.heap.size:=⟨_,rfl⟩
 rw[<-hbP] at hP |-
 have HBP:Hid (bP=w.heap.size):=h_ hbP
 clear hbP
 go_wp2_with (first|fail|(with_reducible refine NN.qr_ rfl _ rfl _ rfl hP hz ?_))
 refine (KN.out _ hB).mono ?_
 rintro e v3 ⟨bt,F,rfl,hS,hF,hb⟩
 have HF0:Hid (∀i,F i->w.heap.size<=i):=h_ fun i hi=>Nat.le_trans hB.size (hF i hi)
 replace hP:=hP.on hb
 replace hB:=tb_ hB hb
 clear hb hF
 have HFl:=h_ hS.1
 go_wp2_with (first|fail|(with_reducible refine NN.qr_ rfl _ rfl _ rfl hP hz ?_))
 refine (KF.out _ hB).mono ?_
 rintro e v12 ⟨bm,rfl,hR,hb⟩
 replace hS:=hS.below hb
 replace hB:=tb_ hB hb
 have HD:Hid (∀i,F i->¬(v3.heap.size<=i/\i<v12.heap.size)):=h_ fun i hi hh=>by have:=HFl.out i hi;omega
 clear hb hP
 generalize hFm:(fun i=>v3.heap.size<=i/\i<v12.heap.size)=Fm at *
 have HD0:Hid (∀i,F i->¬Fm i):=h_ fun i hi=>by rw[<-hFm];exact HD.out i hi
 clear hFm HD HFl
 go_wp2_with fail
 go_loopw [20] (fun i wr=>∃ k:Nat,k<=n/\i = .int .i64 (k:Int)/\∃ Fa Fm M lp,TrS wr Fa bt r M lp/\RfS wr w.heap.size Fm bm r M/\Hid (Ok r M/\M.length<=k+1/\lp.length=M.length/\(∀i,Fa i->w.heap.size<=i)/\∀ i,Fa i->¬Fm i)/\Below w.heap.size w wr) (fun i _=>n - (intOf i).toNat)
 case atStart=>exact ⟨0,by omega,rfl,F,Fm,[entZ],[-1],hS,hR,h_ ⟨Ok.one r,Nat.le_refl _,rfl,HF0.out,HD0.out⟩,hB⟩
 case round=>
  clear hS hR hB HF0 HD0 F Fm
  obtain ⟨k,hk,rfl,Fa,Fm,M,lp,hS,hR,HM,hB⟩:=hrel
  by_cases hlt:k<n
  ·obtain ⟨ab,ao,hae,habl,hc⟩:=(HA.out _ hB) (by rw[<-HN.out];omega)
   subst hae
   have hk2:k<ls.length:=by rw[<-HN.out];exact hlt
   obtain ⟨q0,q1⟩:=hc k hk2
   clear hc
   have HNy:=HNW.out _ (List.getElem_mem hk2)
   generalize ls[k]=y at *
   clear hk2
   have z1:=qhk_ q0
   have z2:=qja_ q0
   have z0:=qja_ (c:=cmZ) hdZ_ok
   have zy:=qh_ q0
   have hb2:Below wr.heap.size wr ((wr.alloc (.cells Tryz.zeroCells64 64)).setRow wr.heap.size (cmA y)):=below_setRow ((Below.refl _ _).alloc (Nat.le_refl _) _) (Nat.le_refl _) _
   have hY:=qaat_ wr y
   have hnew:=qul_ wr
   have hB2:=tb_ hB hb2
   have hS2:=hS.below hb2
   have hR2:=hR.below hb2
   have hT2:=HT.out _ hB2
   have cn:=hY.now q0
   have rh:=hY.head
   have hnY:¬Fa wr.heap.size:=fun hf=>by have:=hS.1 _ hf;omega
   have KAdd:=h_ (tadd_at hS2 HM.out.1 (by have:=HM.out.2.1;omega) HM.out.2.2.1 HG.out.1 HG.out.2.1 hT2 y.h q0 y.now)
   clear hS hR hS2 hB hT2
   go_wp2_with (with_reducible first|refine qff_ rfl _ rfl ab (ao+k*69) rfl y q1 z1 ?_|refine qmn_ rfl _ _ rfl _ _ y rfl rfl rfl z2 hnew z0 ?_|refine qaa_ rfl _ rfl _ 0 rfl y.h rh zy ?_)
   refine KAdd.out.mono ?_
   rintro e v6 ⟨rfl,⟨lp2,hlp2,hS6⟩,hK6⟩
   generalize World.setRow _ _ _=v5 at *
   obtain ⟨bY,hbY⟩:∃ x,x=wr.heap.size:=⟨_,rfl⟩
   rw[<-hbY] at hY hnY |-
   clear hbY
   have hY6:CmAt v6 bY y:=hK6.has hY hnY
   have hR6:=hR2.on hK6 (fun i hi hf=>HM.out.2.2.2.2 i hf hi) (fun i hi=>HM.out.2.2.2.1 i hi)
   have hB6:=hB2.trans (hK6.below HM.out.2.2.2.1 hB2.size)
   have cn6:=hY6.now q0
   have rh6:=hY6.head
   have KAdd2:=h_ (radd_at hR6 HM.out.1 (by have:=HM.out.2.1;omega) HG.out.1 HG.out.2.1 HG.out.2.2 y.h q0 y.now HNy.1 HNy.2)
   have HDj:Hid (∀i,Nxt Fa v5 v6 i->¬Fm i):=h_ fun i hi hf=>hi.elim (fun h=>HM.out.2.2.2.2 i h hf) (fun h=>by have:=(hR2.2.1 i hf).2;omega)
   have HFa6:Hid (∀i,Nxt Fa v5 v6 i->w.heap.size<=i):=h_ fun i hi=>hi.elim (HM.out.2.2.2.1 i) (fun h=>Nat.le_trans hB2.size h.1)
   have hOk:=HM.out.1.add q0 y.now
   have hlen:=add_len r M y.h y.now
   have HL2:Hid (M.length<=k+1):=h_ HM.out.2.1
   have HFm:Hid (∀i,Fm i->w.heap.size<=i):=h_ fun i hi=>(hR2.2.1 i hi).1
   have HLP:=h_ hlp2
   clear hK6 hB2 KAdd hb2 HM hR2 hY hnY cn rh hlp2
   obtain ⟨⟨x1,x2,x3⟩,hres⟩:∃ res,res=(Ar.add r M y.h y.now).1:=⟨_,rfl⟩
   rw[<-hres] at KAdd2 |-
   go_wp2_with (first|fail|(with_reducible refine qaa_ rfl _ rfl _ 0 rfl y.h rh6 zy ?_))
   refine KAdd2.out.mono ?_
   rintro e v7 ⟨rfl,hR7,hK7⟩
   have hS7:=hS6.on hK7 (fun i hi hf=>HDj.out i hi hf)
   have hB7:=hB6.trans (hK7.below HFm.out hB6.size)
   have hlx:=hS6.1
   have HM7:Hid (Ok r (Ar.add r M y.h y.now).2/\(Ar.add r M y.h y.now).2.length<=k+1+1/\lp2.length=(Ar.add r M y.h y.now).2.length/\(∀i,Nxt Fa v5 v6 i->w.heap.size<=i)/\∀ i,Nxt Fa v5 v6 i->¬Nxt Fm v6 v7 i):=h_ ⟨hOk,by have:=HL2.out;omega,HLP.out,HFa6.out,fun i hi hf=>hf.elim (HDj.out i hi) (fun h=>by have:=hlx i hi;omega)⟩
   clear hK7 hB6 KAdd2 hS6 hR6 hOk hlen hlx HDj HFa6 hres cn6 rh6 hY6 HLP
   generalize (Ar.add r M y.h y.now).2=M' at *
   generalize Nxt Fa v5 v6=Fa' at *
   generalize Nxt Fm v6 v7=Fm' at *
   go_wp2_with fail
   go_roundw
   case rel=>exact ⟨k+1,by omega,by go_num,Fa',Fm',M',lp2,hS7,hR7,HM7,hB7⟩
   case measure=>simp[intOf];omega
  ·obtain rfl:k=n:=by omega
   have HGr:Hid (GrownP w wr r (k+1) bt bm):=h_ ⟨Fa,Fm,M,lp,hS,hR,HM.out.2.2.1,HM.out.1,HM.out.2.1⟩
   clear hS hR HM
   go_wp2_with fail
   go_ret2
   exact ⟨_,_,rfl,HGr.out,hB⟩
theorem qkx_ (p:NN.Pr) (hp:p.ok) (h1:p.one) (t:Tl) (tt:p.tl=t.C) (ht:t.ok) (gs:List Gt) (cs:List Ck) (hgn:t.gn=gs.length) (hcn:t.cn=cs.length) (a:Option Addr) (ls:List Cm) (n c:Nat) (hn:n=ls.length) (hnow:∀ x ∈ ls,-9223372036854775808<=x.now/\x.now<=9223372036854775807) (hg:grt13 p t gs cs ls=false) (w:World) (hT:Tab w) (hA:ComesAt w a ls) (hG:GatesAt w t.ga gs) (hC:ChecksAt w t.ca cs) :
  Calls Tryz.prog 9 #[.agg (NN.prA p),.slice a n c] w fun e w'=>∃ bt bm,e = .returned (.tuple #[.pointer (some ⟨bt,0,none⟩),.pointer (some ⟨bm,0,none⟩)])/\GrownP w w' ⟨p,t.g,gs,cs,100⟩ 41 bt bm/\Below w.heap.size w w':=by
 unfold grt13 grt at hg
 simp only[Bool.or_eq_false_iff,decide_eq_false_iff_not,Bool.not_eq_false'] at hg
 obtain ⟨⟨⟨⟨hg0,hg1⟩,hg2⟩,hg3⟩,hr⟩:=hg
 refine (qzd_ p hp ⟨p,t.g,gs,cs,100⟩ a n c ls w (h_ fun w' hb=>hA.below hb) (h_ hn) (by omega) (h_ fun w' hb=>hT.below hb) (h_ fun w' hb=>?_) (h_ fun w' hb=>?_) (h_ ⟨by simp only;omega,by simp only;omega,?_⟩) (h_ hnow)).mono ?_
 ·exact tnew_at p hp h1 t tt ht gs cs hgn hcn (by omega) (by omega) 100 hr w' (hT.below hb) (hG.below hb) (hC.below hb)
 ·exact qafm_ p hp h1 t tt ht gs cs hgn hcn 100 w w' hb hG hC
 ·unfold ruleP NN.Pr.good at hr
  simp only[Bool.and_eq_true,decide_eq_true_eq] at hr
  exact hr.1.1.1.1.1.1.1.1.2
 ·rintro e w' ⟨bt,bm,rfl,⟨F,Fm,M,lp,q1,q2,q3,q4,q5⟩,hb⟩
  exact ⟨bt,bm,rfl,⟨F,Fm,M,lp,q1,q2,q3,q4,by omega⟩,hb⟩
end Go.Proofs.YtcppnfkjklhhdaaGreatDoor.An
namespace Go.Proofs.YtcppnfkjklhhdaaGreatDoor.An
open Go.RowKit Mem Sc
open Ar (Ent Ru)
theorem qfi_ {α:Type} {l:List α} {k:Nat} {x:α} (h:l[k]?=some x):l.take (k+1)=l.take k ++ [x]:=by
 obtain ⟨h1,h2⟩:=List.getElem?_eq_some_iff.1 h
 rw[List.take_succ_eq_append_getElem h1,h2]
theorem qih_ (ids:List (List UInt8)) (l:List UInt8):namesC (ids ++ [l])=namesC ids ++ Lib.byteCells l:=by simp[namesC]
theorem qky_ (hs:List Hd) (h:Hd):headersC (hs ++ [h])=headersC hs ++ hdC h:=by simp[headersC]
theorem qagb_ {w:World} {ops:Array Oper} {rest:List Oper} {o:Oper} {a:Act} {Q:Exit->Act->World->Prop} (hgd:o.guard=none) (s x:Operand) (ho:o.op = .call { callee:=.builtin .append,args:=#[s,x],argTypes:=#[34,34] })
  (base:Nat) (v:Value) (n:Nat) (ids:List (List UInt8)) (hs:a.eval s=v) (hown:w.ownsRow base 28 32 v n (namesC ids)) (g:Nat) (l:List UInt8) (hl:l.length=32) (hx:a.eval x = .slice (some ⟨g,0,none⟩) 1 1) (hg:w.rangeAt g 0 (Lib.byteCells l)) (hn:n<=1000) (hbase:base<=w.heap.size)
  (h:∀ v' w',w'.ownsRow base 28 32 v' (n+1) (namesC (ids ++ [l]))->Below base w w'->wpList Tryz.prog ops Q rest (a.put o.dst v') w'):wpList Tryz.prog ops Q (o :: rest) a w :=
 app_el Tryz.underlying34 qek_ (by decide) (by decide) hgd s x ho base v n _ (Lib.byteCells l) hs hown g hx hg (qe_ hl) (Lib.byteCells_one l) hn hbase fun v' w' q1 q2=>h v' w' (by rw[qih_];exact q1) q2
theorem app_hd {w:World} {ops:Array Oper} {rest:List Oper} {o:Oper} {a:Act} {Q:Exit->Act->World->Prop} (hgd:o.guard=none) (s x:Operand) (ho:o.op = .call { callee:=.builtin .append,args:=#[s,x],argTypes:=#[41,41] })
  (base:Nat) (v:Value) (n:Nat) (hs:List Hd) (hv:a.eval s=v) (hown:w.ownsRow base 30 68 v n (headersC hs)) (g:Nat) (y:Hd) (hy:y.ok) (hx:a.eval x = .slice (some ⟨g,0,none⟩) 1 1) (hg:w.rangeAt g 0 (hdC y)) (hn:n<=1000) (hbase:base<=w.heap.size)
  (h:∀ v' w',w'.ownsRow base 30 68 v' (n+1) (headersC (hs ++ [y]))->Below base w w'->w.grownBy w' v.ownBlock->wpList Tryz.prog ops Q rest (a.put o.dst v') w'):wpList Tryz.prog ops Q (o :: rest) a w:=by
 obtain ⟨i,z,hi,hz,h1,h2,h3⟩:=qoe_
 refine wpList_append_own _ hgd s x 41 ho base 30 i z 68 96 Tryz.underlying41 hi hz h1 h2 h3 (by decide) v n _ hv hown ⟨g,0,none⟩ 1 1 (hdC y) hx (by rw[qh_ hy]) (fun j u hj=>?_) (qgt_ y) (by unfold maxLen;omega) (by omega) hbase (fun v' w' q1 q2 _=>h v' w' (by rw[qky_];exact q1) ((Below.refl base w).grown q2 hbase fun k hk=>(qet_ hown k hk).1) q2)
 rw[Addr.add_lit]
 exact hg j u hj
def NamesR (w:World) (v:Value) (ids:List (List UInt8)):Prop:=∃ a c,v = .slice a ids.length c/\ids.length<=c/\NamesAt w a ids
theorem qow_ {w:World} {base:Nat} {v:Value} {ids:List (List UInt8)} (h:w.ownsRow base 28 32 v ids.length (namesC ids)) (h32:∀ l ∈ ids,l.length=32):NamesR w v ids:=by
 obtain ⟨a,c,rfl,hc⟩:=qan_ h
 refine ⟨a,c,rfl,hc,fun h0=>?_⟩
 have key:∀ i (hi:i<ids.length),∃ g,a=some ⟨g,0,none⟩/\w.rangeAt g (i*32) (Lib.byteCells ids[i]):=fun i hi=>by
  obtain ⟨A,C,e,hA⟩:=qeq_ Lib.byteCells 32 ids (fun x hx=>qe_ (h32 x hx)) i ids[i] (List.getElem?_eq_getElem hi)
  have h':=h
  unfold namesC at h'
  rw[e] at h'
  obtain ⟨g,c',e2,hr⟩:=row_at h' h0
  rw[hA] at hr
  cases e2
  exact ⟨g,rfl,hr⟩
 obtain ⟨g,rfl,hr⟩:=key 0 h0
 have hl0:=h32 _ (List.getElem_mem h0)
 refine ⟨g,0,rfl,block_lt_of_cell (hr 0 _ (List.getElem?_eq_getElem (by rw[qe_ hl0];decide))),fun i hi=>⟨h32 _ (List.getElem_mem hi),?_⟩⟩
 obtain ⟨g2,e,hr2⟩:=key i hi
 cases e
 rw[Nat.zero_add]
 exact hr2
theorem NamesR.below {w w':World} {v:Value} {ids:List (List UInt8)} (h:NamesR w v ids) (hb:Below w.heap.size w w'):NamesR w' v ids:=by
 obtain ⟨a,c,h1,h2,h3⟩:=h
 exact ⟨a,c,h1,h2,h3.below hb⟩
def HeadsR (w:World) (v:Value) (hs:List Hd):Prop:=∃ a c,v = .slice a hs.length c/\hs.length<=c/\HeadersAt w a hs
theorem qeu_ {w:World} {base:Nat} {v:Value} {hs:List Hd} (h:w.ownsRow base 30 68 v hs.length (headersC hs)) (hok:∀ x ∈ hs,x.ok):HeadsR w v hs:=by
 obtain ⟨a,c,e,hc⟩:=qan_ h
 obtain ⟨a',c',e',h2⟩:=qec_ h rfl hok
 rw[e] at e'
 cases e'
 exact ⟨a,c,e,hc,h2⟩
theorem HeadsR.below {w w':World} {v:Value} {hs:List Hd} (h:HeadsR w v hs) (hb:Below w.heap.size w w'):HeadsR w' v hs:=by
 obtain ⟨a,c,h1,h2,h3⟩:=h
 exact ⟨a,c,h1,h2,h3.below hb⟩
section
variable {w:World} {k:Nat} {e:En}
theorem EnAt.idr (h:EnAt w k e) (ho:e.ok):w.rangeAt k 68 (Lib.byteCells e.id):=by
 have:=qbh_ (A:=hdC e.h) (cs:=Lib.byteCells e.id) (C:=.int .i64 e.up :: .int .i64 e.ht :: (NN.numC e.wk).toList) (o:=68) (w:=w) (b:=k) (t:=76) h (by simp[qh_ ho.1])
 exact this
end
end Go.Proofs.YtcppnfkjklhhdaaGreatDoor.An
namespace Go.Proofs.YtcppnfkjklhhdaaGreatDoor.An
open Go.RowKit Mem Sc
open Ar (Ent Ru entZ Ok Row Anc isP nm fk inRow RwT)
def fkG (fi:List UInt8->Int) (gi:List UInt8->Bool):List (List UInt8)->Int
 | []=>0
 | id :: t=>if gi id=true then fi id else fkG fi gi t
theorem qaaz_ {fi:List UInt8->Int} {gi:List UInt8->Bool} {id:List UInt8} {t:List (List UInt8)} (h:gi id=true):fkG fi gi (id :: t)=fi id:=by
 show (if gi id=true then fi id else fkG fi gi t)=_
 rw[if_pos h]
theorem fkG_no {fi:List UInt8->Int} {gi:List UInt8->Bool} {id:List UInt8} {t:List (List UInt8)} (h:gi id=false):fkG fi gi (id :: t)=fkG fi gi t:=by
 show (if gi id=true then fi id else fkG fi gi t)=_
 rw[if_neg (by simp[h])]
theorem qagc_ (fi:List UInt8->Int) (ids:List (List UInt8)):fkG fi (fun _=>false) ids=0:=by
 induction ids with
 | nil=>rfl
 | cons id t ih=>rw[fkG_no rfl];exact ih
theorem fkG_fk {r:Ru} {M:List Ent} (hM:Ok r M) {tip:Int} {L:List Int} (h:RwT M tip L) {gi:List UInt8->Bool} (hg:∀ id,gi id=true ↔ Anc M (plc (Ar.fnd r.g M id)) tip) (ids:List (List UInt8)):fkG (fun id=>plc (Ar.fnd r.g M id)) gi ids=fk r M L ids:=by
 induction ids with
 | nil=>rfl
 | cons id t ih=>
  have:=Ar.qafw_ hM h id (gi id) (hg id)
  cases hgi:gi id with
  | true=>rw[qaaz_ hgi,Ar.fk_yes (k:=plc (Ar.fnd r.g M id)) (by rw[this,hgi];rfl)]
  | false=>rw[fkG_no hgi,Ar.fk_no (by rw[this,hgi];rfl),ih]
theorem qhm_ {α:Type} {l:List α} {k:Nat} {x:α} (h:l[k]?=some x):l.drop k=x :: l.drop (k+1):=by
 obtain ⟨h1,h2⟩:=List.getElem?_eq_some_iff.1 h
 rw[List.drop_eq_getElem_cons h1,h2]
theorem fork_w (tp:Value) (tip:Int) (fi:List UInt8->Int) (gi:List UInt8->Bool) (a:Option Addr) (n c:Nat) (ids:List (List UInt8)) (hn:n=ids.length) (hl:n<=4611686018427387904) (w:World) (hN:NamesAt w a ids)
  (KF:Hid (∀id,id.length=32->∀ w',Below w.heap.size w w'->Calls Tryz.prog 21 #[tp,.agg (bytesV id)] w' fun e w''=>e = .returned (.int .i64 (fi id))/\Below w'.heap.size w' w''))
  (KW:Hid (∀id,∀ w',Below w.heap.size w w'->Calls Tryz.prog 22 #[tp,.int .i64 (fi id),.int .i64 tip] w' fun e w''=>e = .returned (.bool (gi id))/\Below w'.heap.size w' w'')) :
  Ca_ 14 #[tp,.int .i64 tip,.slice a n c] w (.int .i64 (fkG fi gi ids)):=by
 have HN:=h_ hn
 have HA:=h_ fun (w':World) (hb:Below w.heap.size w w')=>hN.below hb
 have hB:=Below.refl w.heap.size w
 obtain ⟨out,ho⟩:∃ out,out=fkG fi gi ids:=⟨_,rfl⟩
 rw[<-ho]
 have HO:Hid (out=fkG fi gi (ids.drop 0)):=h_ ho
 clear hN hn ho
 go_enter Tryz.func14,Tryz.ntmps14
 go_wp2_with fail
 go_loopw [12] (fun i wr=>∃ q:Nat,q<=n/\i = .int .i64 (q:Int)/\Hid (out=fkG fi gi (ids.drop q))/\Below w.heap.size w wr) (fun i _=>n - (intOf i).toNat)
 case atStart=>exact ⟨0,by omega,rfl,HO,hB⟩
 case round=>
  clear hB HO
  obtain ⟨q,hq,rfl,HO,hB⟩:=hrel
  by_cases hlt:q<n
  ·have hql:q<ids.length:=by rw[<-HN.out];exact hlt
   obtain ⟨ab,ao,hae,habl,hc⟩:=(HA.out _ hB) (by omega)
   subst hae
   obtain ⟨l32,hr⟩:=hc q hql
   have hx:ids[q]?=some ids[q]:=List.getElem?_eq_getElem hql
   have hd:=qhm_ hx
   clear hc hx
   generalize ids[q]=id at *
   have KF1:=h_ (KF.out id l32)
   have KW1:=h_ (KW.out id)
   have hbs:=qe_ l32
   have hbv:=qcy_ l32
   have o1:=qy_ id
   obtain ⟨z,hz⟩:∃ z,z=fi id:=⟨_,rfl⟩
   obtain ⟨g,hg⟩:∃ g,g=gi id:=⟨_,rfl⟩
   have HZ:Hid ((g=true->out=z)/\(g=false->out=fkG fi gi (ids.drop (q+1)))):=h_ (by
    have:=HO.out
    rw[hd] at this
    exact ⟨fun h=>by rw[this,hz];exact qaaz_ (hg ▸ h),fun h=>by rw[this];exact fkG_no (hg ▸ h)⟩)
   rw[<-hz] at KF1 KW1
   rw[<-hg] at KW1
   clear hz hg hd HO hql
   go_upto_region 4 with (first
    | (with_reducible refine qq_ rfl _ rfl ab (ao+q*32) rfl id hr hbs ?_)
    | (with_reducible refine qbo_ rfl _ _ rfl _ (bytesV id) (bytesV id) rfl rfl rfl hbv o1 h0 (h0_new wr _) rfl ?_))
   generalize hw4:World.setRow _ _ _=v3
   have hb2:Below wr.heap.size wr v3:=bw_ hw4
   have hI:Has v3 wr.heap.size (bytesV id) 28:=by rw[<-hw4];exact Has.row (h0_new wr _) _
   have hB2:=tb_ hB hb2
   clear hw4 hb2 hB hr
   obtain ⟨bI,hbI⟩:∃ b,b=wr.heap.size:=⟨_,rfl⟩
   rw[<-hbI] at hI |-
   clear hbI
   go_wp2_with (first|fail|(with_reducible refine qdi_ rfl _ rfl _ rfl _ hI hbv ?_))
   refine (KF1.out _ hB2).mono ?_
   rintro e v4 ⟨rfl,hb⟩
   replace hB2:=tb_ hB2 hb
   clear hb hI KF1
   go_wp2_with fail
   refine (KW1.out _ hB2).mono ?_
   rintro e v5 ⟨rfl,hb⟩
   replace hB2:=tb_ hB2 hb
   clear hb KW1
   cases g
   ·have HO2:=h_ (HZ.out.2 rfl)
    go_wp2_with fail
    go_roundw
    case rel=>exact ⟨q+1,by omega,by go_num,HO2,hB2⟩
    case measure=>simp[intOf];omega
   ·obtain rfl:=HZ.out.1 rfl
    go_wp2_with fail
    go_ret
    exact ⟨rfl,hB2⟩
  ·obtain rfl:q=n:=by omega
   have h0:out=0:=by
    have:=HO.out
    rw[HN.out,List.drop_length] at this
    exact this
   subst h0
   go_wp2_with fail
   go_ret
   exact ⟨rfl,hB⟩
section
variable {w:World} {F:Nat->Prop} {b:Nat} {r:Ru} {M:List Ent} {ls:List Int}
theorem qox_ (h:TrS w F b r M ls) (hM:Ok r M) (hl9:M.length<=900) (hl:ls.length=M.length) (tip:Int) (L:List Int) (hW:RwT M tip L) (a:Option Addr) (n c:Nat) (ids:List (List UInt8)) (hn:n=ids.length) (hn9:n<=4611686018427387904) (hN:NamesAt w a ids) :
  Ca_ 14 #[.pointer (some ⟨b,0,none⟩),.int .i64 tip,.slice a n c] w (.int .i64 (fk r M L ids)):=by
 have hex:∀ id:List UInt8,∃ g:Bool,g=true ↔ Anc M (plc (Ar.fnd r.g M id)) tip:=fun id=>by
  by_cases hh:Anc M (plc (Ar.fnd r.g M id)) tip
  ·exact ⟨true,fun _=>hh,fun _=>rfl⟩
  ·exact ⟨false,fun h'=>(by cases h'),fun h'=>absurd h' hh⟩
 obtain ⟨gi,hgi⟩:∃ gi:List UInt8->Bool,∀ id,gi id=true ↔ Anc M (plc (Ar.fnd r.g M id)) tip:=⟨fun id=>Classical.choose (hex id),fun id=>Classical.choose_spec (hex id)⟩
 have:=fork_w (.pointer (some ⟨b,0,none⟩)) tip (fun id=>plc (Ar.fnd r.g M id)) gi a n c ids hn hn9 w hN (h_ fun id hid w' hb=>qaga_ (h.below hb) id hid) (h_ fun id w' hb=>qyy_ (h.below hb) hM hl9 hl _ tip (gi id) (hgi id))
 rwa [fkG_fk hM hW hgi] at this
end
theorem qux_ (tip:Int) (a:Option Addr) (n c:Nat) (ids:List (List UInt8)) (hn:n=ids.length) (hn9:n<=4611686018427387904) (w:World) (hN:NamesAt w a ids) :
  Ca_ 14 #[.pointer none,.int .i64 tip,.slice a n c] w (.int .i64 0):=by
 have:=fork_w (.pointer none) tip (fun _=>-1) (fun _=>false) a n c ids hn hn9 w hN (h_ fun id hid w' _=>qov_ id hid w') (h_ fun id w' _=>quu_ (-1) tip w')
 rwa [qagc_] at this
theorem qagd_ (b nn c0:Nat) (a0:Option Addr) (tip:Int) (g1 g2:Bool) (h1:decide (tip<0)=g1) (h2:decide ((nn:Int)<=tip)=g2) (hno:(g1 || g2)=true) (v:Value) (w:World) (hv:w.cell? ⟨b,83,none⟩=some (.slice a0 nn c0)) :
  Ca_ 15 #[.pointer (some ⟨b,0,none⟩),.int .i64 tip,v] w (.int .i64 0):=by
 have hB:=Below.refl w.heap.size w
 cases g1 <;> cases g2
 case false.false=>cases hno
 all_goals
  clear hno
  go_enter Tryz.func15,Tryz.ntmps15
  go_wp2_with fail
  go_ret
  exact ⟨rfl,hB⟩
set_option maxHeartbeats 8000000 in
theorem quy_ (b g0 c0 g1 c1:Nat) (r:Ru) (M:List Ent) (hM:Ok r M) (hl9:M.length<=900) (j:Nat) (hj:j<M.length) (L:List Int) (hW:RwT M (j:Int) L) (hL9:L.length<=900) (a:Option Addr) (n c:Nat) (ids:List (List UInt8)) (hn:n=ids.length) (hl:n<=4611686018427387904) (w:World) (hN:NamesAt w a ids)
  (HH:Hid (∀w',Below w.heap.size w w'->HdsAt w' b g0 c0 M.length r M)) (HI:Hid (∀w',Below w.heap.size w w'->IdsAt w' b g1 c1 M.length r M)) (hpos:0<L.length)
  (KP:Hid (∀w',Below w.heap.size w w'->Calls Tryz.prog 31 #[.pointer (some ⟨b,0,none⟩),.int .i64 (j:Int)] w' fun e w''=>∃ v,e = .returned v/\w''.ownsRow w'.heap.size 3 1 v L.length (L.map (Value.int .i64))/\Below w'.heap.size w' w'')) :
  Ca_ 15 #[.pointer (some ⟨b,0,none⟩),.int .i64 (j:Int),.slice a n c] w (.int .i64 (fk r M L ids)):=by
 have HN:=h_ hn
 have HA:=h_ fun (w':World) (hb:Below w.heap.size w w')=>hN.below hb
 have HM9:=h_ hl9
 have hB:=Below.refl w.heap.size w
 obtain ⟨out,ho⟩:∃ out,out=fk r M L ids:=⟨_,rfl⟩
 rw[<-ho]
 have HO:Hid (out=fk r M L (ids.drop 0)):=h_ ho
 obtain ⟨ln,hln⟩:∃ ln,ln=L.length:=⟨_,rfl⟩
 rw[<-hln] at KP hL9 hpos
 have HLN:=h_ hln
 obtain ⟨mn,hmn⟩:∃ mn,mn=M.length:=⟨_,rfl⟩
 rw[<-hmn] at HH HI hj
 have HMN:=h_ hmn
 have HW:=h_ hW
 have cH:=(HH.out _ hB).1
 have t1:¬j<0:=by omega
 have t2:¬mn<=j:=by omega
 clear hN hn ho hln hmn hl9 hW
 go_enter Tryz.func15,Tryz.ntmps15
 go_wp2_with fail
 clear cH t1 t2
 go_loopw [24] (fun i wr=>∃ q:Nat,q<=n/\i = .int .i64 (q:Int)/\Hid (out=fk r M L (ids.drop q))/\Below w.heap.size w wr) (fun i _=>n - (intOf i).toNat)
 case atStart=>exact ⟨0,by omega,rfl,HO,hB⟩
 case round=>
  clear hB HO
  obtain ⟨q,hq,rfl,HO,hB⟩:=hrel
  by_cases hlt:q<n
  ·have hql:q<ids.length:=by rw[<-HN.out];exact hlt
   obtain ⟨ab,ao,hae,habl,hc⟩:=(HA.out _ hB) (by omega)
   subst hae
   obtain ⟨l32,hr⟩:=hc q hql
   have hd:=qhm_ (List.getElem?_eq_getElem hql)
   clear hc
   generalize ids[q]=id at *
   have hbs:=qe_ l32
   have hbv:=qcy_ l32
   have o1:=qy_ id
   have HZ:Hid ((∀k,inRow r M L id=some k->out=k)/\(inRow r M L id=none->out=fk r M L (ids.drop (q+1)))):=h_ (by
    have:=HO.out
    rw[hd] at this
    exact ⟨fun k h=>by rw[this];exact Ar.fk_yes h,fun h=>by rw[this];exact Ar.fk_no h⟩)
   clear hd HO hql
   go_upto_region 6 with (first
    | (with_reducible refine qq_ rfl _ rfl ab (ao+q*32) rfl id hr hbs ?_)
    | (with_reducible refine qbo_ rfl _ _ rfl _ (bytesV id) (bytesV id) rfl rfl rfl hbv o1 h0 (h0_new wr _) rfl ?_))
   generalize hw4:World.setRow _ _ _=v3
   have hb2:Below wr.heap.size wr v3:=bw_ hw4
   have hI:Has v3 wr.heap.size (bytesV id) 28:=by rw[<-hw4];exact Has.row (h0_new wr _) _
   replace hB:=tb_ hB hb2
   clear hw4 hb2 hr
   obtain ⟨bI,hbI⟩:∃ b,b=wr.heap.size:=⟨_,rfl⟩
   rw[<-hbI] at hI |-
   clear hbI
   go_wp2_with fail
   refine (KP.out _ hB).mono ?_
   rintro e v4 ⟨vL,rfl,hvL,hb⟩
   have hI4:=qd_ hb hI (Has.lt hI)
   replace hB:=tb_ hB hb
   clear hb hI
   obtain ⟨gL,cL,rfl⟩:=qbw_ hvL hpos
   have HVL:Hid (∀w',Below v4.heap.size v4 w'->∀ (m:Nat) (x:Int),L[m]?=some x->w'.cell? ⟨gL,m,none⟩=some (.int .i64 x)):=h_ fun w' hb m x hx=>by
    obtain ⟨g2,c2,e2,hc⟩:=qer_ hvL hx
    cases e2
    exact (hb.cell (block_lt_of_cell hc)).trans hc
   have HI4:=h_ fun (w':World) (hb:Below v4.heap.size v4 w')=>qd_ hb hI4 (Has.lt hI4)
   have HB4:=h_ hB
   have hb4:=Below.refl v4.heap.size v4
   clear hvL hB hI4
   go_wp2_with fail
   go_loopw [32] (fun i wr=>∃ p:Nat,p<=ln/\i = .int .i64 (p:Int)/\Hid (inRow r M L id=(L.drop p).find? fun k=>nm r M k==id)/\Below v4.heap.size v4 wr) (fun i _=>ln - (intOf i).toNat)
   case atStart=>exact ⟨0,by omega,rfl,h_ rfl,hb4⟩
   case round=>
    clear hb4
    obtain ⟨p,hp,rfl,HR,hb4⟩:=hrel
    have hB:Below w.heap.size w wr:=tb_ HB4.out hb4
    by_cases hlt2:p<ln
    ·obtain ⟨x,hx⟩:∃ x,L[p]?=some x:=⟨_,List.getElem?_eq_getElem (by rw[<-HLN.out];exact hlt2)⟩
     have xc:=HVL.out wr hb4 p x hx
     obtain ⟨k,d,rfl,hkd⟩:=HW.out.place hM (List.mem_of_getElem? hx)
     have hkm:k<mn:=by rw[HMN.out];exact (List.getElem?_eq_some_iff.1 hkd).1
     obtain ⟨c84,hrk⟩:=HI.out wr hB
     have rk:=hrk k d hkd
     have hI5:=HI4.out wr hb4
     have hid5:wr.rangeAt bI 0 (Lib.byteCells id):=qcx_ hI5
     have l2:(d.h r.g).id.length=32:=qo_ _
     obtain ⟨g,hg⟩:∃ g,((d.h r.g).id==id)=g:=⟨_,rfl⟩
     have HR2:Hid ((g=true->inRow r M L id=some (k:Int))/\(g=false->inRow r M L id=(L.drop (p+1)).find? fun k=>nm r M k==id)):=h_ (by
      have:=HR.out
      rw[qhm_ hx,List.find?_cons,Ar.nm_at hkd,hg] at this
      exact ⟨fun h=>by rw[this,h],fun h=>by rw[this,h]⟩)
     have heq:=hn_eql (d.h r.g).id id l2 l32 g hg
     clear hx hkd hrk HR hI5 hg
     generalize (d.h r.g).id=nd at *
     have hbs2:=qe_ l2
     have q84:∀ d os,(Sort.grow (redrawn wr d) os).cell? ⟨b,84,none⟩=some (.slice (some ⟨g1,0,none⟩) mn c1):=cell_regrown c84
     have q1:∀ w',(∃r:Regrown,w'=Sort.grow (redrawn wr r.d) r.os)->w'.rangeAt g1 (k*32) (Lib.byteCells nd):=fun w' hw'=>qw_ rk (ql_ w' hw') (by rw[hbs2];decide)
     have q2:∀ w',(∃r:Regrown,w'=Sort.grow (redrawn wr r.d) r.os)->w'.rangeAt bI 0 (Lib.byteCells id):=fun w' hw'=>qw_ hid5 (ql_ w' hw') (by rw[hbs];decide)
     clear c84 rk hid5
     go_wp2_with fail
     refine wp_region_quiet_below (by kernel_rfl) (by kernel_rfl) ?_
     repeat (first
      | (go_big_quiet_want;(with_reducible first|refine qai_ _ rfl g1 (k*32) rfl nd hbs2 q1 ?_|refine qai_ _ rfl bI 0 rfl id hbs q2 ?_|refine qka_ _ _ _ rfl (bytesV nd) (bytesV id) (.bool g) rfl rfl heq ?_);(simp only[Act.put,List.setIfInBounds_toArray,List.set_cons_zero,List.set_cons_succ]);go_big_quiet_on)
      | go_big_quiet_step (fail))
     refine wpQuiet_nil ?_
     intro v7 hw'
     have hb9:=ql_ v7 hw'
     replace hb4:=tb_ hb4 hb9
     clear hw' hb9 q84 q1 q2 heq xc hB
     cases g
     ·have HR3:=h_ (HR2.out.2 rfl)
      go_wp2_with fail
      go_roundw
      case rel=>exact ⟨p+1,by omega,by go_num,HR3,hb4⟩
      case measure=>simp[intOf];omega
     ·have hout:=HZ.out.1 _ (HR2.out.1 rfl)
      subst hout
      go_wp2_with fail
      go_ret
      exact ⟨rfl,tb_ HB4.out hb4⟩
    ·obtain rfl:p=ln:=by omega
     have HO2:=h_ (HZ.out.2 (by have:=HR.out;rw[HLN.out,List.drop_length] at this;exact this))
     go_wp2_with fail
     go_roundw
     case rel=>exact ⟨q+1,by omega,by go_num,HO2,hB⟩
     case measure=>simp[intOf];omega
  ·obtain rfl:q=n:=by omega
   have h0:out=0:=by
    have:=HO.out
    rw[HN.out,List.drop_length] at this
    exact this
   subst h0
   go_wp2_with fail
   go_ret
   exact ⟨rfl,hB⟩
theorem qje_ {w:World} {B:Nat} {F:Nat->Prop} {b:Nat} {r:Ru} {M:List Ent} (h:RfS w B F b r M) (hM:Ok r M) (hl9:M.length<=900) (tip:Int) (L:List Int) (hW:RwT M tip L) (a:Option Addr) (n c:Nat) (ids:List (List UInt8)) (hn:n=ids.length) (hn9:n<=4611686018427387904) (hN:NamesAt w a ids) :
  Ca_ 15 #[.pointer (some ⟨b,0,none⟩),.int .i64 tip,.slice a n c] w (.int .i64 (fk r M L ids)):=by
 obtain ⟨g0,c0,hH⟩:=h.heads hM
 obtain ⟨g1,c1,hI⟩:=h.ids hM
 rcases hW with ⟨hp,hL⟩|⟨hp,rfl⟩
 ·obtain ⟨j,e,rfl,he⟩:=hp.is
  have hLl:=hL.len hM he
  have hc:=(hM.chain j e he).1
  have hj:=(List.getElem?_eq_some_iff.1 he).1
  exact quy_ b g0 c0 g1 c1 r M hM hl9 j hj L (.inl ⟨hp,hL⟩) (by omega) a n c ids hn hn9 w hN (h_ fun w' hb=>hH.below hb) (h_ fun w' hb=>hI.below hb) (by omega) (h_ fun w' hb=>qfg_ (h.below hb) hM hl9 j e he L hL)
 ·rw[Ar.qkv_]
  refine qagd_ b M.length c0 _ tip _ _ rfl rfl ?_ _ w hH.1
  rw[Bool.or_eq_true,decide_eq_true_eq,decide_eq_true_eq]
  by_cases h0:tip<0
  ·exact .inl h0
  ·exact .inr (Int.not_lt.1 fun hh=>hp ⟨by omega,hh⟩)
end Go.Proofs.YtcppnfkjklhhdaaGreatDoor.An
namespace Go.Proofs.YtcppnfkjklhhdaaGreatDoor.An
open Go.RowKit Mem Sc
open Ar (Ent Ru entZ Ok)
def kG (fi:List UInt8->Int):List Hd->Nat->Int->Nat × Int
 | [],n,a=>(n,a)
 | h :: t,n,a=>if fi h.id = -1 then (n,a) else kG fi t (n+1) (fi h.id)
theorem kG_no {fi:List UInt8->Int} {h:Hd} {t:List Hd} {n:Nat} {a:Int} (e:fi h.id = -1):kG fi (h :: t) n a=(n,a):=by
 show (if fi h.id = -1 then (n,a) else kG fi t (n+1) (fi h.id))=_
 rw[if_pos e]
theorem kG_yes {fi:List UInt8->Int} {h:Hd} {t:List Hd} {n:Nat} {a:Int} (e:¬fi h.id = -1):kG fi (h :: t) n a=kG fi t (n+1) (fi h.id):=by
 show (if fi h.id = -1 then (n,a) else kG fi t (n+1) (fi h.id))=_
 rw[if_neg e]
theorem known_w (tp:Value) (fi:List UInt8->Int) (a:Option Addr) (n c:Nat) (hs:List Hd) (hn:n=hs.length) (hl:n<=4611686018427387904) (w:World) (hA:HeadersAt w a hs) (hT:Tab w)
  (KF:Hid (∀id,id.length=32->∀ w',Below w.heap.size w w'->Calls Tryz.prog 21 #[tp,.agg (bytesV id)] w' fun e w''=>e = .returned (.int .i64 (fi id))/\Below w'.heap.size w' w'')) :
  Ca_ 16 #[tp,.slice a n c] w (.tuple #[.int .i64 ((kG fi hs 0 (-1)).1:Nat),.int .i64 (kG fi hs 0 (-1)).2]):=by
 have HN:=h_ hn
 have HA:=h_ fun (w':World) (hb:Below w.heap.size w w')=>hA.below hb
 have HT:=h_ fun (w':World) (hb:Below w.heap.size w w')=>hT.below hb
 have hB:=Below.refl w.heap.size w
 obtain ⟨⟨o1,o2⟩,ho⟩:∃ o,o=kG fi hs 0 (-1):=⟨_,rfl⟩
 rw[<-ho]
 have HO:Hid ((o1,o2)=kG fi (hs.drop 0) 0 (-1)):=h_ ho
 clear hA hT hn ho
 go_enter Tryz.func16,Tryz.ntmps16
 go_wp2_with fail
 go_loopw [6,12] (fun u i wr=>∃ (q:Nat) (z:Int),q<=n/\u = .int .i64 z/\i = .int .i64 (q:Int)/\Hid ((o1,o2)=kG fi (hs.drop q) q z)/\Below w.heap.size w wr) (fun _ i _=>n - (intOf i).toNat)
 case atStart=>exact ⟨0,-1,by omega,rfl,rfl,HO,hB⟩
 case round=>
  clear hB HO
  obtain ⟨q,z,hq,rfl,rfl,HO,hB⟩:=hrel
  by_cases hlt:q<n
  ·have hql:q<hs.length:=by rw[<-HN.out];exact hlt
   obtain ⟨ab,ao,hae,habl,hc⟩:=(HA.out _ hB) (by omega)
   subst hae
   obtain ⟨ho,hr⟩:=hc q hql
   have hd:=qhm_ (List.getElem?_eq_getElem hql)
   clear hc
   generalize hs[q]=x at *
   have zh:=qh_ ho
   have zz:=qs_ hdZ_ok
   have za:=qs_ ho
   have l32:=qo_ x
   obtain ⟨y,hy⟩:∃ y,y=fi x.id:=⟨_,rfl⟩
   obtain ⟨g,hg⟩:∃ g,(y == -1)=g:=⟨_,rfl⟩
   have HZ:Hid ((g=true->(o1,o2)=(q,z))/\(g=false->(o1,o2)=kG fi (hs.drop (q+1)) (q+1) y)):=h_ (by
    have h0:=HO.out
    rw[hd] at h0
    refine ⟨fun h=>?_,fun h=>?_⟩
    ·rw[h0];exact kG_no (by rw[h,beq_iff_eq] at hg;rw[<-hy];exact hg)
    ·rw[h0,hy];exact kG_yes (by rw[h,beq_eq_false_iff_ne] at hg;rw[<-hy];exact hg))
   have KF1:=h_ (KF.out x.id l32)
   rw[<-hy] at KF1
   have KI:=h_ fun (w':World) (hb:Below w.heap.size w w')=>id_at x ho w' (HT.out w' hb)
   have hnew:=qob_ wr
   have hb2:Below wr.heap.size wr ((wr.alloc (.cells Tryz.zeroCells30 30)).setRow wr.heap.size (hdA x)):=below_setRow ((Below.refl _ _).alloc (Nat.le_refl _) _) (Nat.le_refl _) _
   have hH:HdAt ((wr.alloc (.cells Tryz.zeroCells30 30)).setRow wr.heap.size (hdA x)) wr.heap.size x:=Has.row hnew _
   have hB2:=tb_ hB hb2
   clear hB hy hd HO hql
   go_upto_region 5 with (first
    | (with_reducible refine qaa_ rfl _ rfl ab (ao+q*68) rfl x hr zh ?_)
    | (with_reducible refine qbu_ rfl _ _ rfl _ _ x rfl rfl rfl za hnew zz ?_))
   generalize World.setRow _ _ _=v3 at *
   obtain ⟨bH,hbH⟩:∃ x,x=wr.heap.size:=⟨_,rfl⟩
   rw[<-hbH] at hH |-
   clear hbH hb2 hnew hr
   go_wp2_with (first|fail|(with_reducible refine qak_ rfl _ rfl _ rfl hH za ?_))
   refine (KI.out _ hB2).mono ?_
   rintro e v4 ⟨rfl,hb⟩
   replace hB2:=tb_ hB2 hb
   clear hb hH KI
   generalize x.id=id at *
   go_wp2_with fail
   refine (KF1.out _ hB2).mono ?_
   rintro e v5 ⟨rfl,hb⟩
   replace hB2:=tb_ hB2 hb
   clear hb KF1
   cases g
   ·have HO2:=h_ (HZ.out.2 rfl)
    go_wp2_with fail
    go_roundw
    case rel=>exact ⟨q+1,y,by omega,rfl,by go_num,HO2,hB2⟩
    case measure=>simp[intOf];omega
   ·have h0:=HZ.out.1 rfl
    obtain ⟨rfl,rfl⟩:=Prod.mk.inj h0
    clear h0
    go_wp2_with fail
    go_ret2
    exact ⟨rfl,hB2⟩
  ·obtain rfl:q=n:=by omega
   have h0:(o1,o2)=(q,z):=by
    have:=HO.out
    rw[HN.out,List.drop_length] at this
    rw[HN.out]
    exact this
   obtain ⟨rfl,rfl⟩:=Prod.mk.inj h0
   clear h0
   go_wp2_with fail
   go_ret2
   exact ⟨rfl,hB⟩
theorem qze_ (x:Hd) (a:Option Addr) (c:Nat) (w:World) (hA:HeadersAt w a [x]) (hT:Tab w) :
  Ca_ 16 #[.pointer none,.slice a 1 c] w (.tuple #[.int .i64 0,.int .i64 (-1)]) :=
 known_w (.pointer none) (fun _=>-1) a 1 c [x] rfl (by decide) w hA hT (h_ fun id hid w' _=>qov_ id hid w')
theorem qkz_ (a b:Option Addr) (n c d:Nat) (ids:List (List UInt8)) (hn:n=ids.length) (hl:n<=4611686018427387904) (w:World) (hA:NamesAt w a ids) (hC:NamesAt w b ids) :
  Ca_ 11 #[.slice a n c,.slice b n d] w (.bool true):=by
 have HN:=h_ hn
 have HA:=h_ fun (w':World) (hb:Below w.heap.size w w')=>hA.below hb
 have HC:=h_ fun (w':World) (hb:Below w.heap.size w w')=>hC.below hb
 have hB:=Below.refl w.heap.size w
 have t1:((n:Int) != (n:Int))=false:=by simp
 clear hA hC hn
 go_enter Tryz.func11,Tryz.ntmps11
 go_wp2_with fail
 clear t1
 go_loopw [13] (fun i wr=>∃ q:Nat,q<=n/\i = .int .i64 (q:Int)/\Below w.heap.size w wr) (fun i _=>n - (intOf i).toNat)
 case atStart=>exact ⟨0,by omega,rfl,hB⟩
 case round=>
  clear hB
  obtain ⟨q,hq,rfl,hB⟩:=hrel
  by_cases hlt:q<n
  ·have hql:q<ids.length:=by rw[<-HN.out];exact hlt
   obtain ⟨ab,ao,hae,_,hc⟩:=(HA.out _ hB) (by omega)
   subst hae
   obtain ⟨cb,co,hce,_,hc2⟩:=(HC.out _ hB) (by omega)
   subst hce
   obtain ⟨l32,hr⟩:=hc q hql
   obtain ⟨_,hr2⟩:=hc2 q hql
   clear hc hc2
   generalize ids[q]=x at *
   have hbs:=qe_ l32
   have q1:∀ w',(∃r:Regrown,w'=Sort.grow (redrawn wr r.d) r.os)->w'.rangeAt ab (ao+q*32) (Lib.byteCells x):=fun w' hw'=>qw_ hr (ql_ w' hw') (by rw[hbs];decide)
   have q2:∀ w',(∃r:Regrown,w'=Sort.grow (redrawn wr r.d) r.os)->w'.rangeAt cb (co+q*32) (Lib.byteCells x):=fun w' hw'=>qw_ hr2 (ql_ w' hw') (by rw[hbs];decide)
   have hne:=hn_neq x x l32 l32 false (by simp)
   clear hr hr2
   go_wp2_with fail
   refine wp_region_quiet_below (by kernel_rfl) (by kernel_rfl) ?_
   repeat (first
    | (go_big_quiet_want;(with_reducible first|refine qai_ _ rfl ab (ao+q*32) rfl x hbs q1 ?_|refine qai_ _ rfl cb (co+q*32) rfl x hbs q2 ?_|refine qem_ _ _ _ rfl (bytesV x) (bytesV x) (.bool false) rfl rfl hne ?_);(simp only[Act.put,List.setIfInBounds_toArray,List.set_cons_zero,List.set_cons_succ]);go_big_quiet_on)
    | go_big_quiet_step (fail))
   refine wpQuiet_nil ?_
   intro v7 hw'
   have hb9:=ql_ v7 hw'
   replace hB:=tb_ hB hb9
   clear hw' hb9 q1 q2 hne
   go_wp2_with fail
   go_roundw
   case rel=>exact ⟨q+1,by omega,by go_num,hB⟩
   case measure=>simp[intOf];omega
  ·obtain rfl:q=n:=by omega
   go_wp2_with fail
   go_ret
   exact ⟨rfl,hB⟩
theorem qms_ (a b:Option Addr) (n c d:Nat) (hs:List Hd) (hn:n=hs.length) (hl:n<=4611686018427387904) (w:World) (hA:HeadersAt w a hs) (hC:HeadersAt w b hs) :
  Ca_ 18 #[.slice a n c,.slice b n d] w (.bool true):=by
 have HN:=h_ hn
 have HA:=h_ fun (w':World) (hb:Below w.heap.size w w')=>hA.below hb
 have HC:=h_ fun (w':World) (hb:Below w.heap.size w w')=>hC.below hb
 have hB:=Below.refl w.heap.size w
 have t1:((n:Int) != (n:Int))=false:=by simp
 clear hA hC hn
 go_enter Tryz.func18,Tryz.ntmps18
 go_wp2_with fail
 clear t1
 go_loopw [13] (fun i wr=>∃ q:Nat,q<=n/\i = .int .i64 (q:Int)/\Below w.heap.size w wr) (fun i _=>n - (intOf i).toNat)
 case atStart=>exact ⟨0,by omega,rfl,hB⟩
 case round=>
  clear hB
  obtain ⟨q,hq,rfl,hB⟩:=hrel
  by_cases hlt:q<n
  ·have hql:q<hs.length:=by rw[<-HN.out];exact hlt
   obtain ⟨ab,ao,hae,_,hc⟩:=(HA.out _ hB) (by omega)
   subst hae
   obtain ⟨cb,co,hce,_,hc2⟩:=(HC.out _ hB) (by omega)
   subst hce
   obtain ⟨ho,hr⟩:=hc q hql
   obtain ⟨_,hr2⟩:=hc2 q hql
   clear hc hc2
   generalize hs[q]=x at *
   have zh:=qh_ ho
   have q1:∀ w',(∃r:Regrown,w'=Sort.grow (redrawn wr r.d) r.os)->w'.rangeAt ab (ao+q*68) (hdC x):=fun w' hw'=>qw_ hr (ql_ w' hw') (qcl_ _)
   have q2:∀ w',(∃r:Regrown,w'=Sort.grow (redrawn wr r.d) r.os)->w'.rangeAt cb (co+q*68) (hdC x):=fun w' hw'=>qw_ hr2 (ql_ w' hw') (qcl_ _)
   have hne:=hd_neq x x ho ho false (by simp)
   clear hr hr2
   go_wp2_with fail
   refine wp_region_quiet_below (by kernel_rfl) (by kernel_rfl) ?_
   repeat (first
    | (go_big_quiet_want;(with_reducible first|refine qar_ _ rfl ab (ao+q*68) rfl x zh q1 ?_|refine qar_ _ rfl cb (co+q*68) rfl x zh q2 ?_|refine qpv_ _ _ _ rfl (hdA x) (hdA x) (.bool false) rfl rfl hne ?_);(simp only[Act.put,List.setIfInBounds_toArray,List.set_cons_zero,List.set_cons_succ]);go_big_quiet_on)
    | go_big_quiet_step (fail))
   refine wpQuiet_nil ?_
   intro v7 hw'
   have hb9:=ql_ v7 hw'
   replace hB:=tb_ hB hb9
   clear hw' hb9 q1 q2 hne
   go_wp2_with fail
   go_roundw
   case rel=>exact ⟨q+1,by omega,by go_num,hB⟩
   case measure=>simp[intOf];omega
  ·obtain rfl:q=n:=by omega
   go_wp2_with fail
   go_ret
   exact ⟨rfl,hB⟩
end Go.Proofs.YtcppnfkjklhhdaaGreatDoor.An
namespace Go.Proofs.YtcppnfkjklhhdaaGreatDoor.An
open Go.RowKit Mem Sc
open Ar (Ent Ru entZ Ok)
end Go.Proofs.YtcppnfkjklhhdaaGreatDoor.An
namespace Go.Proofs.YtcppnfkjklhhdaaGreatDoor.An
open Go.RowKit Mem Sc Ht
open Ar (Ent Ru entZ Ok Lp Up isP IsAn Row nm loc)
theorem qoy_ {F:Nat->Prop} {w w1 w2:World} (k:Kp F w w1) (hb:Below w.heap.size w1 w2):Kp F w w2:=⟨hb.os.trans k.os,hb.tape.trans k.tape,hb.output.trans k.output,Nat.le_trans k.size hb.size,fun i hi hn=>(hb.block i hi).trans (k.block i hi hn)⟩
theorem qaba_ (w:World) (b:Nat) (cs:Array Value):Kp (fun i=>i=b) w (w.setRow b cs):=⟨rfl,rfl,rfl,by rw[setRow_size];exact Nat.le_refl _,fun k _ hn=>setRow_other w b k _ hn⟩
theorem qla_ (tp:Value) (k:Int) (E:En) (hE:E.ok) (w:World) (KA:Hid (∀w',Below w.heap.size w w'->Calls Tryz.prog 29 #[tp,.int .i64 k] w' fun x w''=>x = .returned (.tuple #[.agg (enA E),.bool false])/\Below w'.heap.size w' w'')) :
  Calls Tryz.prog 10 #[tp,.int .i64 k] w fun x w'=>x = .returned (.slice none 0 0)/\Below w.heap.size w w':=by
 have ze:=qv_ hE
 have z0:=qv_ enZ_ok
 have hB:=Below.refl w.heap.size w
 go_enter Tryz.func10,Tryz.ntmps10
 go_wp2_with fail
 refine (KA.out _ hB).mono ?_
 rintro x v1 ⟨rfl,hb⟩
 replace hB:=tb_ hB hb
 clear hb
 have hnew:=qbq_ v1
 have hb3:=qcb_ v1 76 Tryz.zeroCells76 (enA E)
 go_upto_region 2 with (with_reducible refine qbc_ rfl _ _ rfl _ _ E rfl rfl rfl ze hnew z0 ?_)
 generalize World.setRow _ _ _=v2 at *
 replace hB:=tb_ hB hb3
 clear hb3 hnew
 go_wp2_with fail
 go_ret
 exact ⟨rfl,hB⟩
theorem qmt_ (b:Nat) (r:Ru) (M:List Ent) (hM:Ok r M) (hl9:M.length<=900) (i:Nat) (e:Ent) (he:M[i]?=some e) (L:List Int) (hL:Row M (i:Int) L) (w:World)
  (KA:Hid (∀(n:Nat) (e:Ent),M[n]?=some e->(enOf r e).ok/\∀ w',Below w.heap.size w w'->Calls Tryz.prog 29 #[.pointer (some ⟨b,0,none⟩),.int .i64 (n:Int)] w' fun x w''=>x = .returned (.tuple #[.agg (enA (enOf r e)),.bool true])/\Below w'.heap.size w' w''))
  (KN:Hid (∀(j t:Nat) (z:Int),isP M (j:Int)->Up M (j:Int) t z->∀ w',Below w.heap.size w w'->Calls Tryz.prog 30 #[.pointer (some ⟨b,0,none⟩),.int .i64 (j:Int),.int .i64 (t:Int)] w' fun x w''=>x = .returned (.int .i64 z)/\Below w'.heap.size w' w'')) :
  Calls Tryz.prog 10 #[.pointer (some ⟨b,0,none⟩),.int .i64 (i:Int)] w fun x w'=>∃ v,x = .returned v/\NamesR w' v (loc r M L)/\Below w.heap.size w w':=by
 have hLl:=hL.len hM he
 have hc:=(hM.chain i e he).1
 have hi9:=(List.getElem?_eq_some_iff.1 he).1
 have HU:=h_ (Up.self hM he)
 obtain ⟨hE,KA1⟩:=KA.out i e he
 have KA1:=h_ KA1
 obtain ⟨k,hk⟩:∃ k,k=e.hs.length:=⟨_,rfl⟩
 have hk9:k<=1099511627776:=by omega
 have KH:=h_ fun w=>qkw_ k hk9 w
 have HLC:Hid (∀(q x:Nat) (m:Int),(hts 0 k)[q]?=some x->L[x]?=some m->(loc r M L)[q]?=some (nm r M m)):=h_ fun q x m hx hm=>by
  unfold loc
  rw[hLl,Nat.add_sub_cancel,<-hk,List.getElem?_map,hx,Option.map_some,List.getD_eq_getElem?_getD,hm]
  rfl
 have HLN:Hid ((loc r M L).length=(hts 0 k).length):=h_ (by rw[Ar.qes_,hLl,Nat.add_sub_cancel,<-hk])
 have HLE:=h_ (hts_le 0 k)
 have HLF:Hid (∀(q x:Nat),(hts 0 k)[q]?=some x->∀ y ∈ (hts 0 k).drop (q+1),y<=x):=h_ fun q x hx y hy=>by
  obtain ⟨t,ht⟩:=List.mem_iff_getElem?.1 hy
  rw[List.getElem?_drop] at ht
  obtain ⟨a1,a2⟩:=List.getElem?_eq_some_iff.1 hx
  obtain ⟨b1,b2⟩:=List.getElem?_eq_some_iff.1 ht
  have:=List.pairwise_iff_getElem.1 (qxi_ 0 k) q (q+1+t) a1 b1 (by omega)
  omega
 obtain ⟨l,hl⟩:∃ l,l=hts 0 k:=⟨_,rfl⟩
 rw[<-hl] at KH HLC HLN HLE HLF
 obtain ⟨E,hEe⟩:∃ E,E=enOf r e:=⟨_,rfl⟩
 have HT:Hid (E.ht=(k:Int)):=h_ (by rw[hEe,hk];rfl)
 rw[<-hEe] at hE KA1
 have HE0:Hid (M[i]?=some e/\e.hs.length=k):=h_ ⟨he,hk.symm⟩
 have HL:=h_ hL
 clear hl hLl hc hi9 hk hk9 hEe he hL
 have ze:=qv_ hE
 have z0:=qv_ enZ_ok
 have hB:=Below.refl w.heap.size w
 go_enter Tryz.func10,Tryz.ntmps10
 go_wp2_with fail
 refine (KA1.out _ hB).mono ?_
 rintro x v1 ⟨rfl,hb⟩
 replace hB:=tb_ hB hb
 clear hb
 have hnew:=qbq_ v1
 have hE1:=qdz_ v1 E
 have hb3:=qcb_ v1 76 Tryz.zeroCells76 (enA E)
 go_upto_region 2 with (with_reducible refine qbc_ rfl _ _ rfl _ _ E rfl rfl rfl ze hnew z0 ?_)
 generalize World.setRow _ _ _=v2 at *
 obtain ⟨bX,hbX⟩:∃ x,x=v1.heap.size:=⟨_,rfl⟩
 rw[<-hbX] at hE1 |-
 have HBX:Hid (w.heap.size<=bX):=h_ (by have:=hB.size;omega)
 replace hB:=tb_ hB hb3
 have c1:=EnAt.ht hE1 hE HT
 clear hb3 hnew hbX KA1
 go_wp2_with fail
 refine (KH.out _).mono ?_
 rintro x v3 ⟨v,rfl,hN,hb⟩
 have hE3:=hE1.on hb
 have hbx2:bX<v2.heap.size:=Has.lt hE1
 have HBX3:Hid (bX<v3.heap.size):=h_ (by have:=hb.size;omega)
 replace hB:=tb_ hB hb
 obtain ⟨n,hn⟩:∃ n,n=l.length:=⟨_,rfl⟩
 have h60:=hN.2
 have hN1:=hN.1
 rw[<-hn] at h60 hN1
 have HN:=h_ hn
 obtain ⟨p,c,rfl,_⟩:=qan_ hN1
 have HCL:Hid (∀w',Kp (fun i=>i=bX) v3 w'->∀ (q x:Nat),l[q]?=some x->∃ g,p=some ⟨g,0,none⟩/\w'.cell? ⟨g,q,none⟩=some (.int .i64 (x:Int))):=h_ fun w' hk q x hx=>by
  obtain ⟨g,c,e,hg,h⟩:=nat_at hN1 hx
  cases e
  exact ⟨g,rfl,(World.cell?_of_block (w:=v3) (a:=⟨g,q,none⟩) (hk.block g (block_lt_of_cell h) (by omega))).trans h⟩
 have HB3:=h_ hB
 clear hN hN1 hb hE1 hB c1 hn KH
 have hK:=Kp.refl (fun i=>i=bX) v3
 have HD:Hid (M[i]?=some e/\E.ok/\Up M (i:Int) e.hs.length (i:Int)/\∀ x ∈ l.drop 0,x<=e.hs.length):=h_ ⟨HE0.out.1,hE,HU.out,fun x hx=>by rw[HE0.out.2];exact HLE.out x hx⟩
 have hR0:v3.ownsRow v3.heap.size 28 32 (.slice none 0 0) 0 (namesC ((loc r M L).take 0)):=by
  have:=World.ownsRow_nil v3 v3.heap.size 28 32
  simpa [namesC] using this
 go_wp2_with fail
 go_loopw [1,7,22] (fun a u x wr=>∃ (q j:Nat) (d:Ent) (E:En),q<=n/\a = .int .i64 (j:Int)/\x = .int .i64 (q:Int)/\EnAt wr bX E/\Hid (M[j]?=some d/\E.ok/\Up M (i:Int) d.hs.length (j:Int)/\∀ x ∈ l.drop q,x<=d.hs.length)/\wr.ownsRow v3.heap.size 28 32 u q (namesC ((loc r M L).take q))/\Kp (fun i=>i=bX) v3 wr) (fun _ _ x _=>n - (intOf x).toNat)
 case atStart=>exact ⟨0,i,e,E,by omega,rfl,rfl,hE3,HD,hR0,hK⟩
 case round=>
  clear hE3 HD hR0 hK ze hE HT
  obtain ⟨q,j,d,E,hq,rfl,rfl,hE,HD,hR,hK⟩:=hrel
  have hB:Below w.heap.size w wr:=HB3.out.trans (hK.below (fun i hi=>by rw[hi];exact HBX.out) HB3.out.size)
  obtain ⟨pO,cO,rfl,hcO⟩:=qan_ hR
  by_cases hlt:q<n
  ·obtain ⟨x,hx⟩:∃ x,l[q]?=some x:=⟨_,List.getElem?_eq_getElem (by rw[<-HN.out];exact hlt)⟩
   have hxd:x<=d.hs.length:=HD.out.2.2.2 x (by
    have:=List.getElem?_drop (xs:=l) (i:=q) (j:=0)
    rw[Nat.add_zero,hx] at this
    exact List.mem_of_getElem? this)
   obtain ⟨g,eg,cl⟩:=HCL.out wr hK q x hx
   subst eg
   obtain ⟨z,hz⟩:=Up.there hM HD.out.1 hxd
   obtain ⟨m,d2,rfl,hd2,hd2l⟩:=hz.place hM
   have KN1:=h_ (KN.out j x (m:Int) (Ar.isP_of HD.out.1) hz)
   obtain ⟨hE2,KA2⟩:=KA.out m d2 hd2
   have KA2:=h_ KA2
   have hup:=HD.out.2.2.1.trans hz
   have HID:Hid ((loc r M L)[q]?=some (enOf r d2).id):=h_ (by
    obtain ⟨K,k1,k2⟩:=hup
    rw[k1.det HL.out] at k2
    rw[HLC.out q x (m:Int) hx k2,Ar.nm_at hd2]
    rfl)
   have HD2:Hid (M[m]?=some d2/\(enOf r d2).ok/\Up M (i:Int) d2.hs.length (m:Int)/\∀ y ∈ l.drop (q+1),y<=d2.hs.length):=h_ ⟨hd2,hE2,by rw[hd2l];exact hup,fun y hy=>by rw[hd2l];exact HLF.out q x hx y hy⟩
   have ze:=qv_ HD.out.2.1
   clear HD hxd hz hup hd2l
   generalize enOf r d2=E2 at *
   have z2:=qv_ hE2
   have l32:=hE2.2
   go_wp2_with fail
   refine (KN1.out _ hB).mono ?_
   rintro x v4 ⟨rfl,hb⟩
   replace hE:=hE.on hb
   replace hK:=qoy_ hK (hb.mono hK.size)
   have hR4:=qbg_ hR hb (Nat.le_refl _)
   replace hB:=tb_ hB hb
   clear hb cl KN1 hR
   go_wp2_with fail
   refine (KA2.out _ hB).mono ?_
   rintro x v5 ⟨rfl,hb⟩
   replace hE:=hE.on hb
   replace hK:=qoy_ hK (hb.mono hK.size)
   have hR5:=qbg_ hR4 hb (Nat.le_refl _)
   clear hb KA2 hR4 hB
   go_upto_region 10 with (with_reducible refine qbc_ rfl _ _ rfl _ _ E2 rfl rfl rfl z2 hE ze ?_)
   have hE6:EnAt (v5.setRow bX (enA E2)) bX E2:=Has.row hE (enA E2)
   replace hK:=hK.trans (qaba_ v5 bX (enA E2)) (fun i hi _=>hi)
   have hR6:(v5.setRow bX (enA E2)).ownsRow v3.heap.size 28 32 (.slice pO q cO) q (namesC ((loc r M L).take q)):=kp_row hR5 (qaba_ v5 bX (enA E2)) fun i hi hh=>by
    have:=(qet_ hR5 i hi).1
    have:=HBX3.out
    omega
   generalize World.setRow _ _ _=v6 at *
   have hid:=hE6.idr HD2.out.2.1
   have hb7:Below v6.heap.size v6 (v6.alloc (.cells (bytesV E2.id) 28)):=(Below.refl _ _).alloc (Nat.le_refl _) _
   have hN7:(v6.alloc (.cells (bytesV E2.id) 28)).rangeAt v6.heap.size 0 (Lib.byteCells E2.id):=qcx_ (Has.new _ _)
   have hR7:=qbg_ hR6 hb7 (Nat.le_refl _)
   have hE7:=hE6.on hb7
   have hK7:=qoy_ hK (hb7.mono hK.size)
   have hs7:=hK7.size
   have hq9:q<=1000:=by omega
   have hbs:=qe_ l32
   have hbv:=qcy_ l32
   clear hE hR5 hE6 hR6 hb7 hK ze z2 hE2
   go_wp2_with (first
    | (with_reducible refine qq_ rfl _ rfl bX 68 rfl E2.id hid hbs ?_)
    | (with_reducible refine qacu_ rfl _ rfl (bytesV E2.id) rfl hbv ?_)
    | ((with_reducible refine qagb_ rfl _ _ rfl v3.heap.size (.slice pO q cO) q _ rfl hR7 v6.heap.size E2.id l32 rfl hN7 hq9 hs7 ?_);intro v' v8 hR8 hb8;obtain ⟨p8,c8,rfl,hc8⟩:=qan_ hR8))
   have hE8:EnAt v8 bX E2:=(hb8.block bX HBX3.out).trans hE7
   have hK8:=qoy_ hK7 hb8
   rw[<-qfi_ HID.out] at hR8
   clear hE7 hK7 hb8 hR7 hN7 hid hs7
   go_roundw
   case rel=>exact ⟨q+1,m,d2,E2,by omega,rfl,by go_num,hE8,HD2,hR8,hK8⟩
   case measure=>simp[intOf];omega
  ·obtain rfl:q=n:=by omega
   have HR:=h_ hR
   clear hR
   go_wp2_with fail
   go_ret
   have hR:=HR.out
   rw[List.take_of_length_le (by rw[HLN.out,HN.out];exact Nat.le_refl _)] at hR
   have e:(loc r M L).length=q:=by rw[HLN.out,HN.out]
   rw[<-e] at hR |-
   exact ⟨_,rfl,qow_ hR Ar.loc_32,hB⟩
section
variable {w:World} {F:Nat->Prop} {b:Nat} {r:Ru} {M:List Ent} {ls:List Int}
theorem TrS.ka (h:TrS w F b r M ls):∀ (n:Nat) (e:Ent),M[n]?=some e->(enOf r e).ok/\∀ w',Below w.heap.size w w'->Calls Tryz.prog 29 #[.pointer (some ⟨b,0,none⟩),.int .i64 (n:Int)] w' fun x w''=>x = .returned (.tuple #[.agg (enA (enOf r e)),.bool true])/\Below w'.heap.size w' w'':=fun n e he=>by
 obtain ⟨Fa,ab,_,k2⟩:=h.parts
 exact ⟨qfr_ k2 he,fun _ hb=>tat_at (h.below hb) he _ rfl⟩
theorem TrS.kn (h:TrS w F b r M ls) (hM:Ok r M) (hl9:M.length<=900) (hl:ls.length=M.length):∀ (j t:Nat) (z:Int),isP M (j:Int)->Up M (j:Int) t z->∀ w',Below w.heap.size w w'->Calls Tryz.prog 30 #[.pointer (some ⟨b,0,none⟩),.int .i64 (j:Int),.int .i64 (t:Int)] w' fun x w''=>x = .returned (.int .i64 z)/\Below w'.heap.size w' w'':=fun j t z hj hz w' hb=>
 qfh_ (h.below hb) hM hl9 j t z (fun hq=>by rw[hl];exact hq.2) (.inl ⟨hj,by omega,by rw[Int.toNat_natCast];exact hz⟩)
theorem quz_ (h:TrS w F b r M ls) (hM:Ok r M) (hl9:M.length<=900) (hl:ls.length=M.length) (i:Nat) (e:Ent) (he:M[i]?=some e) (L:List Int) (hL:Row M (i:Int) L) :
  Calls Tryz.prog 10 #[.pointer (some ⟨b,0,none⟩),.int .i64 (i:Int)] w fun x w'=>∃ v,x = .returned v/\NamesR w' v (loc r M L)/\Below w.heap.size w w' :=
 qmt_ b r M hM hl9 i e he L hL w (h_ h.ka) (h_ (h.kn hM hl9 hl))
theorem qqo_ (h:TrS w F b r M ls) (k:Int) (hk:¬isP M k):Calls Tryz.prog 10 #[.pointer (some ⟨b,0,none⟩),.int .i64 k] w fun x w'=>x = .returned (.slice none 0 0)/\Below w.heap.size w w' :=
 qla_ _ k enN enN_ok w (h_ fun _ hb=>qku_ (h.below hb) k hk)
end
theorem qqp_ (k:Int) (w:World):Calls Tryz.prog 10 #[.pointer none,.int .i64 k] w fun x w'=>x = .returned (.slice none 0 0)/\Below w.heap.size w w' :=
 qla_ _ k enN enN_ok w (h_ fun w' _=>qot_ k w')
end Go.Proofs.YtcppnfkjklhhdaaGreatDoor.An
namespace Go.Proofs.YtcppnfkjklhhdaaGreatDoor.An
open Go.RowKit Mem Sc Ht
open Ar (Ent Ru entZ Ok Row Anc isP loc nm)
end Go.Proofs.YtcppnfkjklhhdaaGreatDoor.An
namespace Go.Proofs.YtcppnfkjklhhdaaGreatDoor.An
open Go.RowKit Mem Sc Ht NN.Rg2
open Ar (Ent Ru entZ Ok Row isP nm loc)
theorem old_but {md:Region.Mode} {ops:Array Oper} {a0:Act} {C:World->Prop} {R:Nat->Value->World->Prop} {I:Array Bool->Act->World->Prop} {listed:Array Bool} {a:Act} {w:World}
  (h:RInv md ops a0 C R I listed a w) (t:Tmp) (k:Nat) (hn:((List.range ops.size).all fun i=>i==k || ((ops[i]?).map fun o=>o.dst != some t).getD true)=true) (hk:listed.getD k false=false):a.eval (.tmp t)=a0.eval (.tmp t) :=
 h.old t fun i o hi hl e=>by
  have hi':=(Array.getElem?_eq_some_iff.1 hi).1
  have h1:=List.all_eq_true.1 hn i (List.mem_range.2 hi')
  rw[hi] at h1
  simp[e] at h1
  subst h1
  rw[hk] at hl
  cases hl
section
variable {ρ:Operand->Value} {o:Oper} {w:World}
theorem qva_ (w:World) (g j n c:Nat) (hj:j<n):(Instr.indexAt 42 (.slice (some ⟨g,0,none⟩) n c) (.int .i64 (j:Int))).run Tryz.prog w = .ok (.pointer (some ⟨g,j,none⟩)) w:=by
 go_simp
theorem qqq_ (w:World) (g j n c:Nat) (hj:j<n):(Instr.indexAt 34 (.slice (some ⟨g,0,none⟩) n c) (.int .i64 (j:Int))).run Tryz.prog w = .ok (.pointer (some ⟨g,j*32,none⟩)) w:=by
 go_simp
theorem qah_ {x:Operand} (ho:o.op = .assign x):(execOp ρ o).run Tryz.prog w = .ok (.value (ρ x)) w:=by
 unfold execOp
 simp only[ho]
 rfl
theorem qqr_ {x y:Operand} {base:Nat} {v:Value} {n g:Nat} {ids:List (List UInt8)} {l:List UInt8} (hl:l.length=32) (hx:ρ x=v) (hown:w.ownsRow base 28 32 v n (namesC ids)) (hy:ρ y = .slice (some ⟨g,0,none⟩) 1 1) (hg:w.rangeAt g 0 (Lib.byteCells l)) (hn:n<=1000) (hbase:base<=w.heap.size) :
  ∃ v' w',(∀o:Oper,o.op = .call { callee:=.builtin .append,args:=#[x,y],argTypes:=#[34,34] }->o.type=34->(execOp ρ o).run Tryz.prog w = .ok (.value v') w')/\w'.ownsRow base 28 32 v' (n+1) (namesC ids ++ Lib.byteCells l)/\Below base w w':=by
 obtain ⟨i,z,hi,hz,h1,h2,h3⟩:=qek_
 obtain ⟨v',w',hr,g1,g2,_⟩:=run_append_own_at (P:=Tryz.prog) w base 34 34 28 i z 32 32 Tryz.underlying34 hi hz h1 h2 h3 (by decide) v n _ hown ⟨g,0,none⟩ 1 1 (Lib.byteCells l) (by rw[qe_ hl]) (fun j u hj=>by
  rw[Addr.add_lit]
  exact hg j u hj) (Lib.byteCells_one l) (by unfold maxLen;omega) (by omega) hbase
 refine ⟨v',w',fun o ho hty=>?_,g1,(Below.refl base w).grown g2 hbase fun k hk=>(qet_ hown k hk).1⟩
 unfold execOp
 simp only[ho,hty,resolve,invoke,builtin,Sem.run_bind,Sem.run_pure,Result.andThen_ok,List.map_toArray,List.map_cons,List.map_nil,hx,hy,hr]
end
def LoR (b g1 c1 mn:Nat) (v:Value) (gL cL ln x m:Nat) (nd:List UInt8):Nat->Value->Prop
 | 0,u=>u=v
 | 1,u=>u = .pointer (some ⟨b,0,none⟩)
 | 2,u=>u = .pointer (some ⟨b,0,none⟩)
 | 3,u=>u = .pointer (some ⟨b,84,none⟩)
 | 4,u=>u = .slice (some ⟨g1,0,none⟩) mn c1
 | 5,u=>u = .slice (some ⟨gL,0,none⟩) ln cL
 | 6,u=>u = .int .i64 (x:Int)
 | 7,u=>u = .pointer (some ⟨gL,x,none⟩)
 | 8,u=>u = .int .i64 (m:Int)
 | 9,u=>u = .pointer (some ⟨g1,m*32,none⟩)
 | 10,u=>u = .agg (bytesV nd)
 | _,_=>True
def LoI (B:Nat) (v:Value) (n:Nat) (ids:List (List UInt8)) (nd:List UInt8) (l:Array Bool) (a:Act) (w:World):Prop :=
 (l.getD 11 false=true->l.getD 12 false=false->∃ g,a.eval (.tmp 44) = .slice (some ⟨g,0,none⟩) 1 1/\Has w g (bytesV nd) 28)/\
 (l.getD 12 false=false->w.ownsRow B 28 32 v n (namesC ids))/\
 (l.getD 12 false=true->w.ownsRow B 28 32 (a.eval (.tmp 45)) (n+1) (namesC ids ++ Lib.byteCells nd))/\
 (l.getD 13 false=true->a.eval (.tmp 5)=a.eval (.tmp 45))
theorem LoI.keep {B:Nat} {v:Value} {n:Nat} {ids:List (List UInt8)} {nd:List UInt8} {l:Array Bool} {a:Act} {w:World} (h:LoI B v n ids nd l a w) (i:Nat) (hi:i<l.size) (h11:i ≠ 11) (h12:i ≠ 12) (h13:i ≠ 13) (d:Option Tmp) (u:Value) (hd:d ≠ some 44) (hd2:d ≠ some 45) (hd3:d ≠ some 5) :
  LoI B v n ids nd (l.setIfInBounds i true) (a.put d u) w:=by
 obtain ⟨p1,p2,p3,p4⟩:=h
 unfold LoI
 rw[qn_ l i 11 hi h11,qn_ l i 12 hi h12,qn_ l i 13 hi h13,Act.eval_put (fun d' hdd e=>hd (by rw[hdd];cases e;rfl)),Act.eval_put (fun d' hdd e=>hd2 (by rw[hdd];cases e;rfl)),Act.eval_put (fun d' hdd e=>hd3 (by rw[hdd];cases e;rfl))]
 exact ⟨p1,p2,p3,p4⟩
theorem qqs_ (b nn c0:Nat) (a0:Option Addr) (tip:Int) (g1 g2:Bool) (h1:decide (tip<0)=g1) (h2:decide ((nn:Int)<=tip)=g2) (hno:(g1 || g2)=true) (w:World) (hv:w.cell? ⟨b,83,none⟩=some (.slice a0 nn c0)) :
  Ca_ 12 #[.pointer (some ⟨b,0,none⟩),.int .i64 tip] w (.slice none 0 0):=by
 have hB:=Below.refl w.heap.size w
 cases g1 <;> cases g2
 case false.false=>cases hno
 all_goals
  clear hno
  go_enter Tryz.func12,Tryz.ntmps12
  go_wp2_with fail
  go_ret
  exact ⟨rfl,hB⟩
set_option maxHeartbeats 8000000 in
theorem qlb_ (b g0 c0 g1 c1:Nat) (r:Ru) (M:List Ent) (hM:Ok r M) (j:Nat) (e:Ent) (he:M[j]?=some e) (L:List Int) (hL:Row M (j:Int) L) (hL9:L.length<=900) (w:World)
  (HH:Hid (∀w',Below w.heap.size w w'->HdsAt w' b g0 c0 M.length r M)) (HI:Hid (∀w',Below w.heap.size w w'->IdsAt w' b g1 c1 M.length r M)) (hpos:0<L.length)
  (KP:Hid (∀w',Below w.heap.size w w'->Calls Tryz.prog 31 #[.pointer (some ⟨b,0,none⟩),.int .i64 (j:Int)] w' fun e w''=>∃ v,e = .returned v/\w''.ownsRow w'.heap.size 3 1 v L.length (L.map (Value.int .i64))/\Below w'.heap.size w' w'')) :
  Calls Tryz.prog 12 #[.pointer (some ⟨b,0,none⟩),.int .i64 (j:Int)] w fun e w'=>∃ v,e = .returned v/\NamesR w' v (loc r M L)/\Below w.heap.size w w':=by
 have hj:=(List.getElem?_eq_some_iff.1 he).1
 have HW:Hid (∀(p:Nat) (x:Int),L[p]?=some x->∃ (n:Nat) (d:Ent),x=(n:Int)/\M[n]?=some d):=h_ fun p x hx=>Ar.RwT.place hM (.inl ⟨Ar.isP_of he,hL⟩) (List.mem_of_getElem? hx)
 have hB:=Below.refl w.heap.size w
 obtain ⟨k,hk⟩:∃ k,k=L.length - 1:=⟨_,rfl⟩
 have hk9:k<=1099511627776:=by omega
 have KH:=h_ fun w=>qqn_ k hk9 w
 have HLC:Hid (∀(q x:Nat) (m:Int),(hts 0 k)[q]?=some x->L[x]?=some m->(loc r M L)[q]?=some (nm r M m)):=h_ fun q x m hx hm=>by
  unfold loc
  rw[<-hk,List.getElem?_map,hx,Option.map_some,List.getD_eq_getElem?_getD,hm]
  rfl
 have HLN:Hid ((loc r M L).length=(hts 0 k).length):=h_ (by rw[Ar.qes_,<-hk])
 have HLE:=h_ (hts_le 0 k)
 obtain ⟨l,hl⟩:∃ l,l=hts 0 k:=⟨_,rfl⟩
 rw[<-hl] at KH HLC HLN HLE
 obtain ⟨ln,hln⟩:∃ ln,ln=L.length:=⟨_,rfl⟩
 rw[<-hln] at KP hL9 hpos hk
 have HLL:=h_ (And.intro hln hk)
 have hw1:IntKind.i64.wrap ((ln:Int) - 1)=(k:Int):=by rw[IntKind.wrap_i64];omega
 obtain ⟨mn,hmn⟩:∃ mn,mn=M.length:=⟨_,rfl⟩
 rw[<-hmn] at HH HI hj
 have HMN:=h_ hmn
 have cH:=(HH.out _ hB).1
 have t1:¬j<0:=by omega
 have t2:¬mn<=j:=by omega
 clear hl hln hmn hk hk9 he hL
 go_enter Tryz.func12,Tryz.ntmps12
 go_wp2_with fail
 clear cH t1 t2
 refine (KP.out _ hB).mono ?_
 rintro e v2 ⟨vL,rfl,hvL,hb⟩
 replace hB:=tb_ hB hb
 clear hb
 obtain ⟨gL,cL,rfl⟩:=qbw_ hvL hpos
 have HVL:Hid (∀w',Below v2.heap.size v2 w'->∀ (m:Nat) (x:Int),L[m]?=some x->w'.cell? ⟨gL,m,none⟩=some (.int .i64 x)):=h_ fun w' hb m x hx=>by
  obtain ⟨g2,c2,e2,hc⟩:=qer_ hvL hx
  cases e2
  exact (hb.cell (block_lt_of_cell hc)).trans hc
 have HB2:=h_ hB
 clear hvL hB
 go_wp2_with fail
 refine (KH.out _).mono ?_
 rintro x v3 ⟨v,rfl,hN,hb⟩
 obtain ⟨n,hn⟩:∃ n,n=l.length:=⟨_,rfl⟩
 have h60:=hN.2
 have hN1:=hN.1
 rw[<-hn] at h60 hN1
 have HN:=h_ hn
 obtain ⟨p,c,rfl,_⟩:=qan_ hN1
 have HCL:Hid (∀w',Below v3.heap.size v3 w'->∀ (q x:Nat),l[q]?=some x->∃ g,p=some ⟨g,0,none⟩/\w'.cell? ⟨g,q,none⟩=some (.int .i64 (x:Int))):=h_ fun w' hb q x hx=>by
  obtain ⟨g,c,e,hg,h⟩:=nat_at hN1 hx
  cases e
  exact ⟨g,rfl,(hb.cell (block_lt_of_cell h)).trans h⟩
 have HB3:=h_ hb
 have hb3:=Below.refl v3.heap.size v3
 have hR0:v3.ownsRow v3.heap.size 28 32 (.slice none 0 0) 0 (namesC ((loc r M L).take 0)):=by
  have:=World.ownsRow_nil v3 v3.heap.size 28 32
  simpa [namesC] using this
 clear hN hN1 hb hn KH
 go_wp2_with fail
 go_loopw [5,29] (fun u x wr=>∃ (q:Nat),q<=n/\x = .int .i64 (q:Int)/\wr.ownsRow v3.heap.size 28 32 u q (namesC ((loc r M L).take q))/\Below v3.heap.size v3 wr) (fun _ x _=>n - (intOf x).toNat)
 case atStart=>exact ⟨0,by omega,rfl,hR0,hb3⟩
 case round=>
  clear hR0 hb3
  obtain ⟨q,hq,rfl,hR,hb3⟩:=hrel
  have hb2:Below v2.heap.size v2 wr:=tb_ HB3.out hb3
  have hB:Below w.heap.size w wr:=tb_ HB2.out hb2
  obtain ⟨pO,cO,rfl,hcO⟩:=qan_ hR
  by_cases hlt:q<n
  ·obtain ⟨x,hx⟩:∃ x,l[q]?=some x:=⟨_,List.getElem?_eq_getElem (by rw[<-HN.out];exact hlt)⟩
   obtain ⟨g,eg,cl⟩:=HCL.out wr hb3 q x hx
   subst eg
   have hxl:x<ln:=by
    have h1:=HLE.out x (List.mem_of_getElem? hx)
    have h2:=HLL.out.2
    omega
   obtain ⟨z,hz⟩:∃ z,L[x]?=some z:=⟨_,List.getElem?_eq_getElem (by rw[<-HLL.out.1];exact hxl)⟩
   obtain ⟨m,d,rfl,hd⟩:=HW.out x z hz
   have xc:=HVL.out wr hb2 x (m:Int) hz
   have hmm:m<mn:=by rw[HMN.out];exact (List.getElem?_eq_some_iff.1 hd).1
   have l32:(d.h r.g).id.length=32:=qo_ _
   have HID:Hid ((loc r M L)[q]?=some (d.h r.g).id):=h_ (by rw[HLC.out q x (m:Int) hx hz,Ar.nm_at hd])
   have HD:=h_ hd
   have HZ:=h_ hz
   have HRK:Hid ((d.h r.g).id=(d.h r.g).id):=h_ rfl
   obtain ⟨nd,hnd⟩:∃ nd,nd=(d.h r.g).id:=⟨_,rfl⟩
   replace HRK:Hid ((d.h r.g).id=nd):=h_ hnd.symm
   rw[<-hnd] at l32 HID
   clear hd hx hz hnd xc
   have hbs:=qe_ l32
   have hbv:=qcy_ l32
   have hq9:q<=1000:=by omega
   go_wp2_with fail
   clear cl
   -- REGION
   have HIx:∀ w',Below v3.heap.size v3 w'->w'.cell? ⟨b,84,none⟩=some (.slice (some ⟨g1,0,none⟩) mn c1)/\w'.rangeAt g1 (m*32) (Lib.byteCells nd):=fun w' hb=>by
    have hb2:Below v2.heap.size v2 w':=tb_ HB3.out hb
    have h:=HI.out w' (tb_ HB2.out hb2)
    exact ⟨h.1,HRK.out ▸ h.2 m d HD.out⟩
   have HLx:∀ w',Below v3.heap.size v3 w'->w'.cell? ⟨gL,x,none⟩=some (.int .i64 (m:Int)):=fun w' hb=>HVL.out w' (tb_ HB3.out hb) x (m:Int) HZ.out
   refine qi_ (by kernel_rfl) (fun w'=>Below v3.heap.size v3 w') (fun i v' _=>LoR b g1 c1 mn (.slice pO q cO) gL cL ln x m nd i v') (fun l a w'=>LoI v3.heap.size (.slice pO q cO) q ((loc r M L).take q) nd l a w') (fun _ _=>True) (fun _ _=>trivial) (fun _ _ _ _ _ _ h=>h) (by kernel_rfl) hb3.drew ?_ ?_ ?_
   ·exact fun l hl=>⟨fun h=>(by rw[hl] at h;cases h),fun _=>qbg_ hR (Below.refl _ _).drew (Nat.le_refl _),fun h=>(by rw[hl] at h;cases h),fun h=>(by rw[hl] at h;cases h)⟩
   ·intro i o listed a wx ho' hnl hdep hinv
    have hC:=hinv.c
    have hI:=hinv.i
    have hi:i<14:=(Array.getElem?_eq_some_iff.1 ho').1
    obtain rfl|rfl|rfl|rfl|rfl|rfl|rfl|rfl|rfl|rfl|rfl|rfl|rfl|rfl:i=0\/i=1\/i=2\/i=3\/i=4\/i=5\/i=6\/i=7\/i=8\/i=9\/i=10\/i=11\/i=12\/i=13:=by omega
    all_goals obtain rfl:=Option.some.inj ho'
    ·have hsz:=hz_ hinv 0
     have h13:(listed.setIfInBounds 0 true).getD 13 false=false:=ai_ hinv hnl 14
     exact dv_ 0 hinv (qa_ rfl) (NN.qk_ rfl) (old_but hinv 5 13 (by kernel_rfl) (by rw[<-qn_ listed 0 13 hsz (by decide)];exact h13)) (hI.keep 0 hsz (by decide) (by decide) (by decide) _ _ (by decide) (by decide) (by decide))
    ·have hsz:=hz_ hinv 1
     exact dv_ 1 hinv (qa_ rfl) (NN.qk_ rfl) (hinv.old' 0) (hI.keep 1 hsz (by decide) (by decide) (by decide) _ _ (by decide) (by decide) (by decide))
    ·have hsz:=hz_ hinv 2
     exact dv_ 2 hinv (qa_ rfl) (ex_nil rfl (gd_ hinv hdep 1 34)) rfl (hI.keep 2 hsz (by decide) (by decide) (by decide) _ _ (by decide) (by decide) (by decide))
    ·have hsz:=hz_ hinv 3
     exact dv_ 3 hinv (qa_ rfl) (qaj_ rfl (gd_ hinv hdep 2 35) (rfield2 wx b)) rfl (hI.keep 3 hsz (by decide) (by decide) (by decide) _ _ (by decide) (by decide) (by decide))
    ·have hsz:=hz_ hinv 4
     exact dv_ 4 hinv (qa_ rfl) (qct_ rfl (gd_ hinv hdep 3 36) (ld_ids (HIx _ hC).1)) rfl (hI.keep 4 hsz (by decide) (by decide) (by decide) _ _ (by decide) (by decide) (by decide))
    ·have hsz:=hz_ hinv 5
     exact dv_ 5 hinv (qa_ rfl) (NN.qk_ rfl) (hinv.old' 6) (hI.keep 5 hsz (by decide) (by decide) (by decide) _ _ (by decide) (by decide) (by decide))
    ·have hsz:=hz_ hinv 6
     exact dv_ 6 hinv (qa_ rfl) (NN.qk_ rfl) (hinv.old' 8) (hI.keep 6 hsz (by decide) (by decide) (by decide) _ _ (by decide) (by decide) (by decide))
    ·have hsz:=hz_ hinv 7
     exact dv_ 7 hinv (qa_ rfl) (ex_idx rfl (gd_ hinv hdep 5 38) (gd_ hinv hdep 6 39) (qva_ wx gL x ln cL hxl)) rfl (hI.keep 7 hsz (by decide) (by decide) (by decide) _ _ (by decide) (by decide) (by decide))
    ·have hsz:=hz_ hinv 8
     exact dv_ 8 hinv (qa_ rfl) (NN.qbf_ rfl (gd_ hinv hdep 7 40) (HLx _ hC)) rfl (hI.keep 8 hsz (by decide) (by decide) (by decide) _ _ (by decide) (by decide) (by decide))
    ·have hsz:=hz_ hinv 9
     exact dv_ 9 hinv (qa_ rfl) (ex_idx rfl (gd_ hinv hdep 4 37) (gd_ hinv hdep 8 41) (qqq_ wx g1 m mn c1 hmm)) rfl (hI.keep 9 hsz (by decide) (by decide) (by decide) _ _ (by decide) (by decide) (by decide))
    ·have hsz:=hz_ hinv 10
     exact dv_ 10 hinv (qa_ rfl) (qdp_ rfl (gd_ hinv hdep 9 42) (HIx _ hC).2 l32) rfl (hI.keep 10 hsz (by decide) (by decide) (by decide) _ _ (by decide) (by decide) (by decide))
    ·have hsz:=hz_ hinv 11
     have h12:(listed.setIfInBounds 11 true).getD 12 false=false:=ai_ hinv hnl 14
     have h13:(listed.setIfInBounds 11 true).getD 13 false=false:=ai_ hinv hnl 14
     have hbx:Below wx.heap.size wx (wx.alloc (.cells (bytesV nd) 28)):=(Below.refl _ _).alloc (Nat.le_refl _) _
     refine dm_ 11 hinv (qa_ rfl) (qbx_ rfl (gd_ hinv hdep 10 43) (qel_ (bytesV nd) hbv wx)) (tb_ hC hbx) trivial ⟨fun _ _=>⟨wx.heap.size,qbs_ a 44 _ (by rw[hinv.tsize];exact (show 44<48 by decide)),Has.new _ _⟩,fun _=>?_,fun h=>(by rw[h12] at h;cases h),fun h=>(by rw[h13] at h;cases h)⟩
     exact qbg_ (hI.2.1 (by rw[<-qn_ listed 11 12 hsz (by decide)];exact h12)) hbx (Nat.le_refl _)
    ·have hsz:=hz_ hinv 12
     have h11:listed.getD 11 false=true:=hdep ⟨11,.data⟩ (by simp) rfl
     have h13:(listed.setIfInBounds 12 true).getD 13 false=false:=ai_ hinv hnl 14
     have e12:(listed.setIfInBounds 12 true).getD 12 false=true:=by rw[qab_ _ _ _ hsz,if_pos rfl]
     obtain ⟨g,hg,hgh⟩:=hI.1 h11 hnl
     obtain ⟨v',w',hr,q1,q2⟩:=qqr_ (ρ:=a.eval) (x:=.tmp 33) (y:=.tmp 44) l32 (gd_ hinv hdep 0 33) (hI.2.1 hnl) hg (qcx_ hgh) hq9 hC.size
     exact dm_ 12 hinv (qa_ rfl) (hr _ rfl rfl) (hC.trans q2) trivial ⟨fun _ h=>(by rw[e12] at h;cases h),fun h=>(by rw[e12] at h;cases h),fun _=>(show w'.ownsRow v3.heap.size 28 32 ((a.put (some 45) v').eval (.tmp 45)) (q+1) (namesC ((loc r M L).take q) ++ Lib.byteCells nd) from by rw[qbs_ a 45 _ (by rw[hinv.tsize];exact (show 45<48 by decide))];exact q1),fun h=>(by rw[h13] at h;cases h)⟩
    ·have hsz:=hz_ hinv 13
     have h12:listed.getD 12 false=true:=hdep ⟨12,.data⟩ (by simp) rfl
     have e13:(listed.setIfInBounds 13 true).getD 13 false=true:=by rw[qab_ _ _ _ hsz,if_pos rfl]
     have e12:(listed.setIfInBounds 13 true).getD 12 false=true:=by rw[qn_ listed 13 12 hsz (by decide)];exact h12
     have hv:(a.put (some 5) (a.eval (.tmp 45))).eval (.tmp 45)=a.eval (.tmp 45):=Act.eval_put (fun d hd e=>by cases hd;cases e)
     exact dv_ 13 hinv (qa_ rfl) (qah_ rfl) trivial ⟨fun _ h=>(by rw[e12] at h;cases h),fun h=>(by rw[e12] at h;cases h),fun _=>(show wx.ownsRow v3.heap.size 28 32 ((a.put (some 5) (a.eval (.tmp 45))).eval (.tmp 45)) (q+1) (namesC ((loc r M L).take q) ++ Lib.byteCells nd) from by rw[hv];exact hI.2.2.1 h12),fun _=>(show (a.put (some 5) (a.eval (.tmp 45))).eval (.tmp 5)=(a.put (some 5) (a.eval (.tmp 45))).eval (.tmp 45) from by rw[hv,qbs_ a 5 _ (by rw[hinv.tsize];exact (show 5<48 by decide))])⟩
   ·intro listed a' w5 hall hinv
    have hb5:=hinv.c
    have h45:=hinv.i.2.2.1 (hall 12 (by decide))
    have h5:=hinv.i.2.2.2 (hall 13 (by decide))
    obtain ⟨v',hv'⟩:∃ v',v'=a'.eval (.tmp 45):=⟨_,rfl⟩
    rw[<-hv'] at h45 h5
    rw[<-qih_,<-qfi_ HID.out] at h45
    obtain ⟨u,hu⟩:∃ u:Nat->Value,∀ t,u t=a'.eval (.tmp t):=⟨_,fun _=>rfl⟩
    rw[qav_ a' 48 u hinv.tsize hinv.defers hu]
    have f0:=hinv.old' 0
    have f1:=hinv.old' 1
    have f2:=hinv.old' 2
    have f3:=hinv.old' 3
    have f4:=hinv.old' 4
    have f6:=hinv.old' 6
    have f7:=hinv.old' 7
    have f8:=hinv.old' 8
    have f9:=hinv.old' 9
    have f10:=hinv.old' 10
    have f11:=hinv.old' 11
    have f12:=hinv.old' 12
    have f13:=hinv.old' 13
    have f14:=hinv.old' 14
    have f15:=hinv.old' 15
    have f16:=hinv.old' 16
    have f17:=hinv.old' 17
    have f18:=hinv.old' 18
    have f19:=hinv.old' 19
    have f20:=hinv.old' 20
    have f21:=hinv.old' 21
    have f22:=hinv.old' 22
    have f23:=hinv.old' 23
    have f24:=hinv.old' 24
    have f25:=hinv.old' 25
    have f26:=hinv.old' 26
    have f27:=hinv.old' 27
    have f28:=hinv.old' 28
    have f29:=hinv.old' 29
    have f30:=hinv.old' 30
    have f31:=hinv.old' 31
    have f32:=hinv.old' 32
    have f46:=hinv.old' 46
    have f47:=hinv.old' 47
    have f5:=h5
    simp only[<-hu] at f0 f1 f2 f3 f4 f5 f6 f7 f8 f9 f10 f11 f12 f13 f14 f15 f16 f17 f18 f19 f20 f21 f22 f23 f24 f25 f26 f27 f28 f29 f30 f31 f32 f46 f47
    simp[Act.eval] at f0 f1 f2 f3 f4 f6 f7 f8 f9 f10 f11 f12 f13 f14 f15 f16 f17 f18 f19 f20 f21 f22 f23 f24 f25 f26 f27 f28 f29 f30 f31 f32 f46 f47
    clear hu hinv hall
    simp only[List.range,List.range.loop,List.map_cons,List.map_nil]
    rw[f0,f1,f2,f3,f4,f5,f6,f7,f8,f9,f10,f11,f12,f13,f14,f15,f16,f17,f18,f19,f20,f21,f22,f23,f24,f25,f26,f27,f28,f29,f30,f31,f32,f46,f47]
    clear f0 f1 f2 f3 f4 f5 f6 f7 f8 f9 f10 f11 f12 f13 f14 f15 f16 f17 f18 f19 f20 f21 f22 f23 f24 f25 f26 f27 f28 f29 f30 f31 f32 f46 f47
    obtain ⟨p5,c5,rfl,hc5⟩:=qan_ h45
    clear hv'
    go_wp2_with fail
    go_roundw
    case rel=>exact ⟨q+1,by omega,by go_num,h45,hb5⟩
    case measure=>simp[intOf];omega
   -- END
  ·obtain rfl:q=n:=by omega
   have HR:=h_ hR
   clear hR
   go_wp2_with fail
   go_ret
   have hR:=HR.out
   rw[List.take_of_length_le (by rw[HLN.out,HN.out];exact Nat.le_refl _)] at hR
   have e:(loc r M L).length=q:=by rw[HLN.out,HN.out]
   rw[<-e] at hR |-
   exact ⟨_,rfl,qow_ hR Ar.loc_32,hB⟩
theorem qqt_ {w:World} {B:Nat} {F:Nat->Prop} {b:Nat} {r:Ru} {M:List Ent} (h:RfS w B F b r M) (hM:Ok r M) (hl9:M.length<=900) (j:Nat) (e:Ent) (he:M[j]?=some e) (L:List Int) (hL:Row M (j:Int) L) :
  Calls Tryz.prog 12 #[.pointer (some ⟨b,0,none⟩),.int .i64 (j:Int)] w fun e w'=>∃ v,e = .returned v/\NamesR w' v (loc r M L)/\Below w.heap.size w w':=by
 obtain ⟨g0,c0,hH⟩:=h.heads hM
 obtain ⟨g1,c1,hI⟩:=h.ids hM
 have hLl:=hL.len hM he
 have hc:=(hM.chain j e he).1
 have hj:=(List.getElem?_eq_some_iff.1 he).1
 exact qlb_ b g0 c0 g1 c1 r M hM j e he L hL (by omega) w (h_ fun w' hb=>hH.below hb) (h_ fun w' hb=>hI.below hb) (by omega) (h_ fun w' hb=>qfg_ (h.below hb) hM hl9 j e he L hL)
theorem qmu_ {w:World} {B:Nat} {F:Nat->Prop} {b:Nat} {r:Ru} {M:List Ent} (h:RfS w B F b r M) (hM:Ok r M) (tip:Int) (hp:¬isP M tip) :
  Ca_ 12 #[.pointer (some ⟨b,0,none⟩),.int .i64 tip] w (.slice none 0 0):=by
 obtain ⟨g0,c0,hH⟩:=h.heads hM
 refine qqs_ b M.length c0 _ tip _ _ rfl rfl ?_ w hH.1
 rw[Bool.or_eq_true,decide_eq_true_eq,decide_eq_true_eq]
 by_cases h0:tip<0
 ·exact .inl h0
 ·exact .inr (Int.not_lt.1 fun hh=>hp ⟨by omega,hh⟩)
end Go.Proofs.YtcppnfkjklhhdaaGreatDoor.An
