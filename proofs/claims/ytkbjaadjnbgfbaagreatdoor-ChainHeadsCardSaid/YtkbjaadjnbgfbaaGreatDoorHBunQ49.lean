import Derived.Test.YtkbjaadjnbgfbaaGreatDoorHBunQ44
import Derived.Test.YtkbjaadjnbgfbaaGreatDoorHShelfC
set_option maxRecDepth 100000
set_option maxHeartbeats 8000000
namespace Go.Proofs.YtkbjaadjnbgfbaaGreatDoor.An
open Go.RowKit Mem Sc
def jG(w:World)(v:Value)(l:List Int):Prop:=w.ownsRow 0 3 1 v l.length (l.map (Value.int .i64))
variable{w:World}{v:Value}{l:List Int}
theorem xd(h:jG w v l):(v=.slice none 0 0/\l=[])\/∃g c S,v=.slice (bs g) l.length c/\Has w g (l.map (Value.int .i64)++S).toArray 3/\c=l.length+S.length/\c<=maxLen:=by obtain⟨_,⟨rfl,h0⟩|⟨g,c,cur,rfl,_,hg,h1,h2,h3,h4⟩⟩:=h;exact .inl ⟨rfl,gE h0⟩;rw[fx]at h3 h4;refine .inr ⟨g,c,cur.toList.drop l.length,rfl,?_,?_,h2⟩;rw[<-h4,iN];exact hg;have h5:cur.toList.length=cur.size:=g_;rw[gD];omega
theorem tZ{g c n:Nat}{S:List Value}(h:Has w g (l.map (Value.int .i64)++S).toArray 3)(hc:c=l.length+S.length)(hm:c<=maxLen)(hn:n=l.length):jG w (.slice (bs g) n c) l:=by subst hn;exact⟨by simp,.inr ⟨g,c,_,rfl,bB _,h,by omega,hm,by simp;omega,by simp⟩⟩
theorem u7(w:World)(b o:Nat)(vs:List Value):Kp (fun k=>k=b) w (w.setCells b o vs):=by obtain⟨h1,h2,h3,h4⟩:=Oh b vs o w;exact⟨h1,h2,h3,by rw[h4];exact au _,fun k _ hn=>ML b k hn vs o w⟩
theorem DG(F:Nat->Prop)(w:World):Kp F w w.drew:=⟨rfl,rfl,rfl,au _,fun _ _ _=>rfl⟩
theorem NP(l:List Int):∀v∈l.map (Value.int .i64),v.oneCell'=true:=fun v hv=>by
 obtain⟨_,_,rfl⟩:=jQ.1 hv;rfl
theorem Qj(l:List Int)(i:Nat):l.map (Value.int .i64)=(l.take i).map (Value.int .i64)++(l.drop i).map (Value.int .i64):=by rw[<-List.map_append,iN]
theorem tK(k:Nat):(Builtin.zeroCells (Value.int .i64 0).cells k).toList.length=k:=by simp[Builtin.zeroCells,Value.cells]
def LX(w w':World)(v:Value)(l':List Int)(v':Value):Prop:=jG w' v' l'/\(v'.ownBlock=v.ownBlock\/∃g,v'.ownBlock=some g/\w.heap.size<=g)/\Kp (fun k=>v.ownBlock=some k) w w'
theorem K6(hl:jG w v l)(i:Nat)(hi:i<=l.length)(hn:l.length<=1000)(vb:Nat)(x:Int)(hv:Has w vb #[i_ x] 3)(hne:∀k,v.ownBlock=some k->vb≠k):aU 98 #[v,i_ i,.slice (bs vb) 1 1] w fun e w'=>∃v',e=.returned v'/\LX w w' v (l.take i++x::l.drop i) v':=by
 have hx:∀j u,([Value.int .i64 x]:List Value)[j]?=some u->w.cell? ⟨vb,0+j,none⟩=some u:=by
  intro j u hj;rw[cy,hv.cell j];simpa using hj
 have h1v:∀u∈[Value.int .i64 x],u.oneCell'=true:=fun u hu=>by
  obtain rfl:u=Value.int .i64 x:=by simpa using hu
  rfl
 have hmx:maxLen=9223372036854775807:=rfl;rcases xd hl with⟨rfl,rfl⟩|⟨g,c,S,rfl,hg,hc,hm⟩
 ·obtain rfl:i=0:=by simpa using hi
  refine(Tryz.slices_Insert_int_end_grow none 0 0 vb 0 1 1 [] [i_ x] w (by decide) (by decide) (by decide) (by decide) rfl rfl (fun _=>rfl) (fun a ha=>by cases ha) hx h1v).mono ?_;rintro e w' ⟨rfl,rfl⟩;have hG:=grownCap_ge w (0+1) 0 3;have hM:=grownCap_le_maxLen w (0+1) 0 3 (by decide);refine⟨_,rfl,tZ (S:=(Builtin.zeroCells (Value.int .i64 0).cells (grownCap w (0+1) 0 3-(0+1))).toList) ?_ ?_ hM rfl,.inr ⟨_,rfl,au _⟩,Kp.of ((cg.drew).alloc (au _) _)⟩;have:=Has.new (w:=w.drew) ((([]:List Value)++[Value.int .i64 x]).toArray++Builtin.zeroCells (Value.int .i64 0).cells (grownCap w (0+1) 0 3-(0+1))) 3;refine Eq.trans this ?_;congr 2;apply il.1;simp;rw[tK];exact(Nat.add_sub_of_le hG).symm
 ·have hcell:∀j u,(l.map (Value.int .i64))[j]?=some u->w.cell? ⟨g,0+j,none⟩=some u:=by
   intro j u hj;rw[cy,hg.cell j,dg,dm (bk.1 hj).1];exact hj
  have hgv:vb≠g:=hne g rfl;have hlen:(l.map (Value.int .i64)).length=l.length:=dS ..;by_cases hin:i=l.length
  ·subst hin;rw[iY,mE];by_cases hroom:l.length+1<=c
   ·obtain⟨s,S',rfl⟩:∃s S',S=s::S':=by
     cases S with
     | nil=>simp at hc;omega
     | cons s S'=>exact⟨s,S',rfl⟩
    have hsome:∀j,j<1->(w.cell? ⟨g,0+l.length+j,none⟩).isSome=true:=fun j hj=>by
     obtain rfl:j=0:=(by omega);rw[cy,iv,hg.cell,dg,dE (by omega)];simp
    refine(Tryz.slices_Insert_int_end_room g 0 l.length c vb 0 1 1 [i_ x] w (by decide) hroom (by omega) rfl hsome (fun j _=>hg.free _) hx h1v).mono ?_;rintro e w' ⟨rfl,rfl⟩;rw[cy];have h2:=tQ g 3 [Value.int .i64 x] l.length w (l.map (Value.int .i64)) [s] S' (by simpa using hg) hlen rfl;refine⟨_,rfl,tZ (S:=S') (by simpa using h2) (by simp at hc|-;omega) hm (by simp),.inl rfl,(u7 w g _ _).mono fun k hk _=>by rw[hk];rfl⟩
   refine(Tryz.slices_Insert_int_end_grow (bs g) l.length c vb 0 1 1 (l.map (Value.int .i64)) [i_ x] w (by decide) (by omega) (by omega) (by omega) hlen rfl (fun h=>by cases h) (fun a ha j u hj=>?_) hx h1v).mono ?_;cases ha;rw[jK];exact hcell j u hj;rintro e w' ⟨rfl,rfl⟩;have hG:=grownCap_ge w (l.length+1) c 3;have hM:=grownCap_le_maxLen w (l.length+1) c 3 (by omega);refine⟨_,rfl,tZ (S:=(Builtin.zeroCells (Value.int .i64 0).cells (grownCap w (l.length+1) c 3-(l.length+1))).toList) ?_ ?_ hM (by simp),.inr ⟨_,rfl,au _⟩,Kp.of ((cg.drew).alloc (au _) _)⟩;have:=Has.new (w:=w.drew) ((l.map (Value.int .i64)++[Value.int .i64 x]).toArray++Builtin.zeroCells (Value.int .i64 0).cells (grownCap w (l.length+1) c 3-(l.length+1))) 3;refine Eq.trans this ?_;congr 2;apply il.1;simp;rw[tK];simp;omega
  ·have hil:i<l.length:=by omega
   have hdl:((l.map (Value.int .i64)).drop i).length=l.length-i:=by rw[gD,hlen]
   obtain⟨q0,Q,hQ⟩:∃q0 Q,(l.drop i).map (Value.int .i64)=q0::Q:=by
    cases hd:(l.drop i).map (Value.int .i64)with
    | nil=>rw[List.map_eq_nil_iff,List.drop_eq_nil_iff]at hd;omega
    | cons q0 Q=>exact⟨q0,Q,rfl⟩
   have hQl:Q.length+1=l.length-i:=by
    have:=aJ List.length hQ;rw[dS,gD,fP]at this;omega
   have ZN:((l.take i).map (Value.int .i64)).length=i:=by rw[dS,eM];omega
   have hdm:(l.map (Value.int .i64)).drop i=q0::Q:=by rw[<-List.map_drop,hQ]
   have htm:(l.map (Value.int .i64)).take i=(l.take i).map (Value.int .i64):=by rw[<-List.map_take]
   by_cases hroom:l.length+1<=c
   ·obtain⟨s,S',rfl⟩:∃s S',S=s::S':=by
     cases S with
     | nil=>simp at hc;omega
     | cons s S'=>exact⟨s,S',rfl⟩
    have hsome:∀j,j<l.length+1->(w.cell? ⟨g,0+j,none⟩).isSome=true:=fun j hj=>by
     rw[cy,hg.cell,ju (by simp;omega)];rfl
    refine az (Tryz.slices_Insert_int_shift g 0 l.length c i vb 0 1 1 (l.map (Value.int .i64)) [i_ x] w hil (by decide) hroom (by omega) hgv hlen rfl hcell hsome (fun j _=>hg.free _) hx (NP l) h1v 3 3 1 (l.map (Value.int .i64)++s::S').toArray.size (by unfold World.shape?;rw[hv.out];rfl) (by unfold World.shape?;rw[hg.out]) (by simp) (hv.free _) (hv.free _)) fun w' hw=>?_;rw[cy,cy,hdm]at hw;subst hw
    have h1:Has w.drew g (((l.take i).map (Value.int .i64)++[q0])++((Q++[s])++S')).toArray 3:=by
     have:=Has.drew hg;rw[Qj l i,hQ]at this;simpa using this
    have h2:=tQ g 3 (q0::Q) (i+1) w.drew _ (Q++[s]) S' h1 (by rw[aT,ZN];rfl) (by simp);have h3:=tQ g 3 [Value.int .i64 x] i _ ((l.take i).map (Value.int .i64)) [q0] ((q0::Q)++S') (by simpa using h2) ZN rfl;refine⟨_,rfl,tZ (S:=S') ?_ (by simp at hc|-;omega) hm (by simp;omega),.inl rfl,?_⟩;rw[ic,bZ,hQ];simpa using h3;exact(((DG (fun k=>k=g) w).trans (u7 _ g _ _) (fun _ h _=>h)).trans (u7 _ g _ _) (fun _ h _=>h)).mono fun k hk _=>by rw[hk];rfl
   ·refine az (Tryz.slices_Insert_int_grow g 0 l.length c i vb 0 1 1 (l.map (Value.int .i64)) [i_ x] w hil (by decide) (by omega) (by omega) (by omega) hlen rfl hcell hx (NP l) h1v) fun w' hw=>?_;rw[hdm,htm]at hw;have hG:=grownCap_ge w (l.length+1) c 3;have hM:=grownCap_le_maxLen w (l.length+1) c 3 (by omega);obtain⟨G,hGe⟩:∃G,G=grownCap w (l.length+1) c 3:=⟨_,rfl⟩;rw[<-hGe]at hw hG hM|-;have hz1:=tK (l.length+1-i);have hz2:=tK (G-(l.length+1));generalize Builtin.zeroCells (Value.int .i64 0).cells (l.length+1-i)=Z1 at hw hz1;generalize Builtin.zeroCells (Value.int .i64 0).cells (G-(l.length+1))=Z2 at hw hz2
    obtain⟨z0,Z3,hZ⟩:∃z0 Z3,Z1.toList=z0::Z3:=by
     cases hz:Z1.toList with
     | nil=>rw[hz]at hz1;simp at hz1;omega
     | cons z0 Z3=>exact⟨z0,Z3,rfl⟩
    have hZ3:Z3.length=l.length-i:=by
     rw[hZ,fP]at hz1;omega
    have h1:Has ((w.alloc (.cells (((l.take i).map (Value.int .i64)).toArray++Z1++Z2) 3)).drew) w.heap.size ((l.take i).map (Value.int .i64)++([z0]++(Z3++Z2.toList))).toArray 3:=by
     refine Eq.trans (Has.new (w:=w) (((l.take i).map (Value.int .i64)).toArray++Z1++Z2) 3) ?_;congr 2;apply il.1;simp[hZ]
    have h2:=tQ w.heap.size 3 [Value.int .i64 x] i _ _ [z0] (Z3++Z2.toList) h1 ZN rfl;have h3:=tQ w.heap.size 3 (q0::Q) (i+1) _ ((l.take i).map (Value.int .i64)++[Value.int .i64 x]) Z3 Z2.toList (Has.drew (by rw[iS];exact h2)) (by rw[aT,ZN];rfl) (by rw[hZ3,fP];omega);refine⟨_,rfl,tZ (S:=Z2.toList) ?_ (by rw[hz2];simp;omega) hM (by simp;omega),.inr ⟨_,rfl,au _⟩,?_⟩;have e:(l.take i).map (Value.int .i64)++[Value.int .i64 x]++((q0::Q)++Z2.toList)=((l.take i).map (Value.int .i64)++Value.int .i64 x::(q0::Q))++Z2.toList:=(by simp);rw[e]at h3;rw[ic,bZ,hQ,hw];exact h3
    ·rw[hw];have hb:Bl w ((w.alloc (.cells (((l.take i).map (Value.int .i64)).toArray++Z1++Z2) 3)).drew):=cu.drew;refine(((Kp.of (F:=fun k=>k=w.heap.size) hb).trans (u7 _ w.heap.size _ _) (fun _ h _=>h)).trans ((DG (fun k=>k=w.heap.size) _).trans (u7 _ w.heap.size _ _) (fun _ h _=>h)) (fun _ h _=>h)).mono fun k hk hlt=>?_
     omega
theorem JR(hl:jG w v l)(hn:l.length<=1000):aU 100 #[v] w fun e w'=>∃v',e=.returned v'/\jG w' v' l/\(∀k,v'.ownBlock=some k->w.heap.size<=k)/\Bl w w':=by
 have weak:∀{w':World}{v':Value},w'.ownsRow w.heap.size 3 1 v' l.length (l.map (Value.int .i64))->jG w' v' l/\∀k,v'.ownBlock=some k->w.heap.size<=k:=fun h=>by
  refine⟨⟨h.1,h.2.imp id fun⟨g,c,cur,a1,_,a3⟩=>⟨g,c,cur,a1,bB _,a3⟩⟩,fun k hk=>(h.lt k hk).1⟩
 rcases xd hl with⟨rfl,rfl⟩|⟨g,c,S,rfl,hg,hc,hm⟩
 refine(Tryz.slices_Clone_int_nil 0 0 w).mono ?_;rintro e w' ⟨rfl,rfl⟩;exact⟨_,rfl,lf _ _ _ _,fun k hk=>(by cases hk),cg⟩
 ·by_cases h0:l=[];subst h0;refine(Tryz.slices_Clone_int_zero ⟨g,0,none⟩ c w).mono ?_;rintro e w' ⟨v',rfl,h1,_,hb⟩;exact⟨v',rfl,(weak h1).1,(weak h1).2,hb⟩
  ·have hc':∀j,j<l.length->w.cell? ⟨g,0+j,none⟩=some (i_ (l.getD j 0)):=fun j hj=>by
    rw[cy,hg.cell j,dg,dm (by simpa using hj),eK,aQ hj];simp[List.getD,hj]
   refine(Tryz.slices_Clone_int g 0 l.length c l w (au _) (by omega) hc').mono ?_;rintro e w' ⟨v',rfl,h1,_,hb⟩;rw[iY]at h1;exact⟨v',rfl,(weak h1).1,(weak h1).2,hb⟩
end Go.Proofs.YtkbjaadjnbgfbaaGreatDoor.An
namespace Go.Proofs.YtkbjaadjnbgfbaaGreatDoor
open Go.RowKit
namespace An
open Mem Sc
theorem MH(g:FuncId)(cb:Array Value)(n k:Nat)(p:Nat->Bool)(w:World)(hsz:n<4611686018427387904)(hk:k<=n)(H1:Hid (∀i,i<k->p i=false))(H2:Hid (∀i,k<=i->i<n->p i=true))(eg:∀args w,(callFunc g args).run Tryz.prog w=.ok (.enter g args) w)(KP:Hid (∀w' i,i<n->Bl w w'->aU g (#[i_ i]++cb) w' fun e w''=>e=.returned (.bool (p i))/\Bl w' w'')):ar 131 #[i_ n,.func (.func g) #[] cb] w (i_ k):=by
 have hB:=aA w.heap.size w;go_enter Tryz.func131,Tryz.ntmps131;go_wp2_with fail
 go_loopw [5,6] (fun s5 s6 wr=>∃lo hi:Nat,s5=i_ lo/\s6=i_ hi/\lo<=k/\k<=hi/\hi<=n/\Bl w wr) (fun s5 s6 _=>((intOf s6)-(intOf s5)).toNat)
 case atStart=>exact⟨0,n,rfl,rfl,by omega,hk,au _,hB⟩
 case round=>
  clear hB;obtain⟨lo,hi,rfl,rfl,hlo,hhi,hin,hB⟩:=hrel;by_cases hlt:lo<hi
  ·obtain⟨m,hm⟩:∃m,m=(lo+hi)/2:=⟨_,rfl⟩;have hc:=KP.out _ m (by omega) hB;have h1:=H1.out m;have h2:=H2.out m;have hmi:(m:Int)=((lo:Int)+(hi:Int))/2:=by omega
   rw[hmi]at hc;have HM:Hid (m=(lo+hi)/2):=h_ hm;cases hp:p m<;>rw[hp]at hc
   ·have HK:Hid (m<k):=h_ (Nat.lt_of_not_ge fun hh=>by have:=h2 hh (by omega);rw[hp]at this;cases this);clear h1 h2 hp hm hmi;go_wp2_with (go_at_fn g;refine hc.mono ?_;rintro e w' ⟨rfl,hb⟩)
    go_roundw
    case rel=>exact⟨m+1,hi,by have:=HM.out;go_num,rfl,by have:=HK.out;omega,hhi,hin,ai hB hb⟩
    case measure=>have:=HM.out;simp[intOf];omega
   ·have HK:Hid (k<=m):=h_ (Nat.le_of_not_lt fun hh=>by have:=h1 hh;rw[hp]at this;cases this);clear h1 h2 hp hm hmi;go_wp2_with (go_at_fn g;refine hc.mono ?_;rintro e w' ⟨rfl,hb⟩)
    go_roundw
    case rel=>exact⟨lo,m,rfl,by have:=HM.out;go_num,hlo,HK.out,by have:=HM.out;omega,ai hB hb⟩
    case measure=>have:=HM.out;simp[intOf];omega
  ·obtain rfl:lo=k:=by omega
   obtain rfl:hi=lo:=by omega
   go_wp2_with fail
   go_ret;exact⟨rfl,hB⟩
def qB(q:Option Addr)(lv:Value):Array Value:=#[.pointer q,lv]
variable{w:World}{s:Nat}{q:Option Addr}{lv:Value}
theorem oC(h:Has w s (qB q lv) 129):w.cell? ⟨s,0,none⟩=some (.pointer q):=Has.cell h 0
theorem tD(h:Has w s (qB q lv) 129):w.cell? ⟨s,1,none⟩=some lv:=Has.cell h 1
theorem wI(h:Has w s (qB q lv) 129)(v:Value):Has (w.setCell ⟨s,1,none⟩ v) s (qB q v) 129:=Has.set (i:=1) h v
theorem Br(p1 p2 s:Nat)(q:Option Addr)(g n c i:Nat)(x y:Int)(hv:Bool)(w:World)(c1:w.cell? ⟨p1,0,none⟩=some (af s))(c2:w.cell? ⟨p2,0,none⟩=some (i_ x))(c3:w.cell? ⟨s,0,none⟩=some (.pointer q))(c4:w.cell? ⟨s,1,none⟩=some (.slice (bs g) n c))(c5:w.cell? ⟨g,i,none⟩=some (i_ y))(hi:i<n)(KH:bG w 31 #[.pointer q,i_ y,i_ x] (.bool hv)):ar 132 #[i_ i,af p1,af p2] w (.bool (!hv)):=by
 have hR:∀d os,Bl w (Sort.grow (redrawn w d) os):=fun d os=>below_regrown w d os
 have q1:∀d os,(Sort.grow (redrawn w d) os).cell? ⟨p1,0,none⟩=some (af s):=cell_regrown c1;have q2:∀d os,(Sort.grow (redrawn w d) os).cell? ⟨p2,0,none⟩=some (i_ x):=cell_regrown c2;have q3:∀d os,(Sort.grow (redrawn w d) os).cell? ⟨s,0,none⟩=some (.pointer q):=cell_regrown c3;have q4:∀d os,(Sort.grow (redrawn w d) os).cell? ⟨s,1,none⟩=some (.slice (bs g) n c):=cell_regrown c4;have q5:∀d os,(Sort.grow (redrawn w d) os).cell? ⟨g,i,none⟩=some (i_ y):=cell_regrown c5;clear c1 c2 c3 c4 c5;go_enter Tryz.func132,Tryz.ntmps132;go_wp2_with fail
 refine wp_region_quiet_below (by kernel_rfl) (by kernel_rfl) ?_
 repeat(first
  | go_big_quiet_step ((go_at_call 31;exact Calls.regrown_of (KH.out _ (hR _ _)))))
 refine wpQuiet_nil ?_;intro v3 hw';have hb:=rO v3 hw';clear hw' hR q1 q2 q3 q4 q5;go_wp2_with fail
 go_ret;exact⟨rfl,hb⟩
theorem NV(p1 p2 s:Nat)(q:Option Addr)(g n c i:Nat)(x y:Int)(hv:Bool)(w:World)(c1:w.cell? ⟨p1,0,none⟩=some (af s))(c2:w.cell? ⟨p2,0,none⟩=some (i_ x))(c3:w.cell? ⟨s,0,none⟩=some (.pointer q))(c4:w.cell? ⟨s,1,none⟩=some (.slice (bs g) n c))(c5:w.cell? ⟨g,i,none⟩=some (i_ y))(hi:i<n)(KH:bG w 31 #[.pointer q,i_ x,i_ y] (.bool hv)):ar 135 #[i_ i,af p1,af p2] w (.bool hv):=by
 have hR:∀d os,Bl w (Sort.grow (redrawn w d) os):=fun d os=>below_regrown w d os
 have q1:∀d os,(Sort.grow (redrawn w d) os).cell? ⟨p1,0,none⟩=some (af s):=cell_regrown c1;have q2:∀d os,(Sort.grow (redrawn w d) os).cell? ⟨p2,0,none⟩=some (i_ x):=cell_regrown c2;have q3:∀d os,(Sort.grow (redrawn w d) os).cell? ⟨s,0,none⟩=some (.pointer q):=cell_regrown c3;have q4:∀d os,(Sort.grow (redrawn w d) os).cell? ⟨s,1,none⟩=some (.slice (bs g) n c):=cell_regrown c4;have q5:∀d os,(Sort.grow (redrawn w d) os).cell? ⟨g,i,none⟩=some (i_ y):=cell_regrown c5;clear c1 c2 c3 c4 c5;go_enter Tryz.func135,Tryz.ntmps135;go_wp2_with fail
 refine wp_region_quiet_below (by kernel_rfl) (by kernel_rfl) ?_
 repeat(first
  | go_big_quiet_step ((go_at_call 31;exact Calls.regrown_of (KH.out _ (hR _ _)))))
 refine wpQuiet_nil ?_;intro v3 hw';have hb:=rO v3 hw';clear hw' hR q1 q2 q3 q4 q5;go_wp2_with fail
 go_ret;exact⟨rfl,hb⟩
def mA(w:World)(ad:Option Addr)(l:List Int):Prop:=∀i (hi:i<l.length),∃g,ad=some ⟨g,0,none⟩/\w.cell? ⟨g,i,none⟩=some (i_ l[i])
theorem mA.below{w':World}{ad:Option Addr}{l:List Int}(h:mA w ad l)(hb:Bl w w'):mA w' ad l:=fun i hi=>by
 obtain⟨g,h1,h2⟩:=h i hi;exact⟨g,h1,(hb.cell (p:=⟨g,i,none⟩) (block_lt_of_cell h2)).trans h2⟩
theorem vL(s:Nat)(q:Option Addr)(ad:Option Addr)(l:List Int)(n c:Nat)(x:Int)(k:Nat)(p:Nat->Bool)(hn:n=l.length)(hn1:n<=1000)(hk:k<=n)(H1:Hid (∀i,i<k->p i=false))(H2:Hid (∀i,k<=i->i<n->p i=true))(g2:Bool)(hg:Hid (∀h:k<l.length,(l[k]==x)=g2))(hg':k=n->g2=false)(w:World)(hS:Has w s (qB q (.slice ad n c)) 129)(hC:mA w ad l)(KH:Hid (∀w' i (hi:i<l.length),Bl w w'->ar 31 #[.pointer q,i_ l[i],i_ x] w' (.bool (!p i)))):ar 96 #[af s,i_ x] w (.tuple #[i_ k,.bool g2]):=by
 have HN:=h_ hn;have HC:=h_ hC;clear hn hC;go_enter Tryz.func96,Tryz.ntmps96;go_upto_region 1 with fail
 generalize hw0:World.alloc _ _=v0;have hB:Bl w v0:=by rw[<-hw0];exact cu.alloc (by simp) _
 have b1:v0.cell? ⟨w.heap.size,0,none⟩=some (af s):=by rw[<-hw0];exact Has.cell (Has.alloc (Has.new #[af s] _) _) 0
 have b2:v0.cell? ⟨w.heap.size+1,0,none⟩=some (i_ x):=by rw[<-hw0];exact NN.Has.cell (NN.Has.Vt _ #[i_ x] _) 0
 clear hw0;obtain⟨p1,e1⟩:∃y,y=w.heap.size:=⟨_,rfl⟩;obtain⟨p2,e2⟩:∃y,y=w.heap.size+1:=⟨_,rfl⟩;rw[<-e2]at b2|-;rw[<-e1]at b1|-;clear e1 e2;have hS0:=dz hB hS (Has.lt hS);have c3:=oC hS0;have c4:=tD hS0;have B1:=h_ b1;have B2:=h_ b2;have C3:=h_ c3;have C4:=h_ c4;have Yq:=h_ (HC.out.below hB);have HB0:=h_ hB;clear hS hS0 HC b2 c3;go_wp2_with fail
 refine(MH 132 #[af p1,af p2] n k p v0 (by omega) hk H1 H2 (enters_of Tryz.func132 (by kernel_rfl) rfl) (h_ fun w' i hi hb=>?_)).mono ?_
 ·have hil:i<l.length:=by rw[<-HN.out];exact hi
  obtain⟨g,hg1,hg2⟩:=Yq.out.below hb i hil;subst hg1;have hc:∀{a:Addr}{u:Value},v0.cell? a=some u->w'.cell? a=some u:=fun h=>(hb.cell (block_lt_of_cell h)).trans h
  have:=Br p1 p2 s q g n c i x l[i] (!p i) w' (hc B1.out) (hc B2.out) (hc C3.out) (hc C4.out) hg2 hi (h_ fun w'' hb'=>KH.out w'' i hil (HB0.out.trans ((ai hb hb').mono HB0.out.size)));rwa[Bool.not_not]at this
 rintro e v1 ⟨rfl,hb⟩;have c4':=(hb.cell (p:=⟨s,1,none⟩) (block_lt_of_cell C4.out)).trans C4.out;have b1':=(hb.cell (p:=⟨p1,0,none⟩) (block_lt_of_cell B1.out)).trans B1.out;have b2':=(hb.cell (p:=⟨p2,0,none⟩) (block_lt_of_cell B2.out)).trans B2.out;replace hB:=ai hB hb;have Yw:=h_ (Yq.out.below hb);clear hb Yq B1 B2 C3 C4 c4 b1 HB0 KH H1 H2;have q1:∀d os,(Sort.grow (redrawn v1 d) os).cell? ⟨p1,0,none⟩=some (af s):=cell_regrown b1';have q2:∀d os,(Sort.grow (redrawn v1 d) os).cell? ⟨p2,0,none⟩=some (i_ x):=cell_regrown b2';have q4:∀d os,(Sort.grow (redrawn v1 d) os).cell? ⟨s,1,none⟩=some (.slice ad n c):=cell_regrown c4';by_cases hkn:k<n
 ·have hkl:k<l.length:=by rw[<-HN.out];exact hkn
  obtain⟨g,hg1,hg2⟩:=Yw.out k hkl;subst hg1;have hgg:=hg.out hkl;generalize l[k]=y at*;have q5:∀d os,(Sort.grow (redrawn v1 d) os).cell? ⟨g,k,none⟩=some (i_ y):=cell_regrown hg2;have hd:decide ((k:Int)<(n:Int))=true:=aG (by omega);clear hg2 Yw hkl b1' b2' c4' hg hg';go_wp2_with fail
  refine wp_region_quiet_below (by kernel_rfl) (by kernel_rfl) ?_
  repeat(first
   | go_big_quiet_step (fail))
  refine wpQuiet_nil ?_;intro v3 hw';have hb:=rO v3 hw';replace hB:=ai hB hb;clear hw' hb q1 q2 q4 q5;go_wp2_with fail
  go_ret2;exact⟨rfl,hB⟩
 ·have hd:decide ((k:Int)<(n:Int))=false:=aE (by omega);have hd2:decide (k<n)=false:=aE hkn;obtain rfl:=hg' (by omega);clear Yw b1' b2' c4' hg hg' hkn;go_wp2_with fail
  refine wp_region_quiet_below (by kernel_rfl) (by kernel_rfl) ?_
  repeat(first
   | go_big_quiet_step (fail))
  refine wpQuiet_nil ?_;intro v3 hw';have hb:=rO v3 hw';replace hB:=ai hB hb;clear hw' hb q1 q2 q4;go_wp2_with fail
  go_ret2;exact⟨rfl,hB⟩
theorem C5(s:Nat)(q:Option Addr)(ad:Option Addr)(l:List Int)(n c:Nat)(x:Int)(k:Nat)(p:Nat->Bool)(hn:n=l.length)(hn1:n<=1000)(hk:k<=n)(H1:Hid (∀i,i<k->p i=false))(H2:Hid (∀i,k<=i->i<n->p i=true))(w:World)(hS:Has w s (qB q (.slice ad n c)) 129)(hC:mA w ad l)(KH:Hid (∀w' i (hi:i<l.length),Bl w w'->ar 31 #[.pointer q,i_ x,i_ l[i]] w' (.bool (p i)))):ar 99 #[af s,i_ x] w (i_ k):=by
 have HN:=h_ hn;have HC:=h_ hC;clear hn hC;go_enter Tryz.func99,Tryz.ntmps99;go_upto_region 1 with fail
 generalize hw0:World.alloc _ _=v0;have hB:Bl w v0:=by rw[<-hw0];exact cu.alloc (by simp) _
 have b1:v0.cell? ⟨w.heap.size,0,none⟩=some (af s):=by rw[<-hw0];exact Has.cell (Has.alloc (Has.new #[af s] _) _) 0
 have b2:v0.cell? ⟨w.heap.size+1,0,none⟩=some (i_ x):=by rw[<-hw0];exact NN.Has.cell (NN.Has.Vt _ #[i_ x] _) 0
 clear hw0;obtain⟨p1,e1⟩:∃y,y=w.heap.size:=⟨_,rfl⟩;obtain⟨p2,e2⟩:∃y,y=w.heap.size+1:=⟨_,rfl⟩;rw[<-e2]at b2|-;rw[<-e1]at b1|-;clear e1 e2;have hS0:=dz hB hS (Has.lt hS);have c3:=oC hS0;have c4:=tD hS0;have B1:=h_ b1;have B2:=h_ b2;have C3:=h_ c3;have C4:=h_ c4;have Yq:=h_ (HC.out.below hB);have HB0:=h_ hB;clear hS hS0 HC b2 c3;go_wp2_with fail
 refine(MH 135 #[af p1,af p2] n k p v0 (by omega) hk H1 H2 (enters_of Tryz.func135 (by kernel_rfl) rfl) (h_ fun w' i hi hb=>?_)).mono ?_
 ·have hil:i<l.length:=by rw[<-HN.out];exact hi
  obtain⟨g,hg1,hg2⟩:=Yq.out.below hb i hil;subst hg1;have hc:∀{a:Addr}{u:Value},v0.cell? a=some u->w'.cell? a=some u:=fun h=>(hb.cell (block_lt_of_cell h)).trans h
  exact NV p1 p2 s q g n c i x l[i] (p i) w' (hc B1.out) (hc B2.out) (hc C3.out) (hc C4.out) hg2 hi (h_ fun w'' hb'=>KH.out w'' i hil (HB0.out.trans ((ai hb hb').mono HB0.out.size)))
 rintro e v1 ⟨rfl,hb⟩;replace hB:=ai hB hb;clear hb Yq B1 B2 C3 C4 c4 b1 HB0 KH H1 H2;go_wp2_with fail
 go_ret;exact⟨rfl,hB⟩
theorem IH(s:Nat)(q:Option Addr)(lv:Value)(x:Int)(e:En)(he:e.ok)(g:Bool)(w:World)(hS:Has w s (qB q lv) 129)(KA:bG w 29 #[.pointer q,i_ x] (.tuple #[.agg (dc e),.bool g])):ar 97 #[af s,i_ x] w (.bool g):=by
 have z0:=ki eo;have z1:=ki he;have hB:=aA w.heap.size w;have c0:=oC hS;clear hS;go_enter Tryz.func97,Tryz.ntmps97;go_wp2_with fail
 refine(KA.out _ hB).mono ?_;rintro u v1 ⟨rfl,hb⟩;replace hB:=ai hB hb;clear hb c0;have hnew:=kp v1;have hb2:Bl v1 ((v1.alloc (.cells Tryz.zeroCells60 60)).setRow v1.heap.size (dc e)):=below_setRow cu (au _) _;replace hB:=ai hB hb2;clear hb2;go_wp2_with (with_reducible refine lu rfl _ _ rfl _ _ e rfl rfl rfl z1 hnew z0 ?_)
 go_ret;exact⟨rfl,hB⟩
open NN.VI
theorem Kv{α β:Type}(f:β->α->β)(l:β)(ps:List α)(k:Nat)(hk:k<ps.length):(ps.take (k+1)).foldl f l=f ((ps.take k).foldl f l) ps[k]:=by rw[iJ,aQ hk,Option.toList_some,qk];rfl
theorem SF{ops:Array Oper}{rest:List Oper}{o:Oper}{a:Act}{Q:Exit->Act->World->Prop}(hgd:o.guard=none)(x y:Operand)(ho:o.op=.store 49 x y)(q:Addr)(ad:Option Addr)(n c:Nat)(u:Value)(hx:a.eval x=.pointer (some q))(hy:a.eval y=.slice ad n c)(hf:w.frozen? q=false)(hc:w.cell? q=some u)(hk:wpList Tryz.prog ops Q rest (a.put o.dst undef) (w.setCell q (.slice ad n c))):wpList Tryz.prog ops Q (o::rest) a w:=
 gk hgd fun _ hK=>by
  unfold Oper.wp;rw[Et ho hx hy hf hc];exact hK _ _ hk
def Cx(s:Nat)(St:World->List Nat->Prop)(m:List Nat)(e:Ending)(w:World):Prop:=∃ad n c u,e=.returned (.slice ad n c)/\w.cell? ⟨s,1,none⟩=some u/\w.frozen? ⟨s,1,none⟩=false/\St (w.setCell ⟨s,1,none⟩ (.slice ad n c)) m
def R2(s:Nat)(St:World->List Nat->Prop)(f:List Nat->Int->List Nat)(wr:World)(m:List Nat)(x:Int):Prop:=
 ∃(k:Nat)(th is:Bool),(∀w',Bl wr w'->ar 96 #[af s,i_ x] w' (.tuple #[i_ k,.bool th]))/\(∀w',Bl wr w'->ar 97 #[af s,i_ x] w' (.bool is))/\((th=true\/is=false)->f m x=m)/\
  (th=false->is=true->∀w',Bl wr w'->∃ad c,w'.cell? ⟨s,1,none⟩=some (.slice ad m.length c)/\∀w2 vb,Bl w' w2->w'.heap.size<=vb->Has w2 vb #[i_ x] 3->aU 98 #[.slice ad m.length c,i_ k,.slice (bs vb) 1 1] w2 fun e w3=>Cx s St (f m x) e w3)
theorem Fz(s:Nat)(a:Option Addr)(n c:Nat)(ps:List Int)(HN:Hid (n=ps.length))(hn2:n<=1000)(St:World->List Nat->Prop)(f:List Nat->Int->List Nat)(l:List Nat)(w:World)(HS:Hid (St w l))(KB:Hid (∀wr wr' m,St wr m->Bl wr wr'->St wr' m))(KL:Hid (∀wr m,St wr m->m.length<=900/\∃ad c,wr.cell? ⟨s,1,none⟩=some (.slice ad m.length c)))(KA:Hid (∀wr m,St wr m->0<n->∃ab ao,a=some ⟨ab,ao,none⟩/\∀i (hi:i<ps.length),wr.cell? ⟨ab,ao+i,none⟩=some (i_ ps[i])))(KR:Hid (∀wr m x,St wr m->R2 s St f wr m x)):aU 59 #[af s,.slice a n c] w fun e w'=>e=.returned (i_ (((ps.foldl f l).length:Int)-(l.length:Int)))/\St w' (ps.foldl f l):=by
 obtain⟨ZH,ad,cc,c1⟩:=KL.out w l HS.out;obtain⟨L,hL⟩:∃L,L=l.length:=⟨_,rfl⟩;rw[<-hL]at c1 ZH|-;clear hL;obtain⟨R,hR⟩:∃R,R=ps.foldl f l:=⟨_,rfl⟩;rw[<-hR];obtain⟨z,hz⟩:∃z:Int,z=(R.length:Int)-(L:Int):=⟨_,rfl⟩;rw[<-hz];have HR:=h_ hR;have HZ:=h_ hz;clear hR hz;go_enter Tryz.func59,Tryz.ntmps59;go_wp2_with fail
 go_loopw [19] (fun i wr=>∃(k:Nat)(m:List Nat),k<=n/\i=i_ k/\Hid (m=(ps.take k).foldl f l)/\Hid (St wr m)) (fun i _=>n-(intOf i).toNat)
 case atStart=>exact⟨0,l,by omega,rfl,h_ rfl,HS⟩
 case round=>
  clear c1 HS;obtain⟨k,m,hk,rfl,HM,Z7⟩:=hrel;by_cases hlt:k<n
  ·obtain⟨ab,ao,hae,hc⟩:=KA.out wr m Z7.out (by omega);subst hae;have hk2:k<ps.length:=by rw[<-HN.out];exact hlt
   have c0:=hc k hk2;have YJ:Hid ((ps.take (k+1)).foldl f l=f m ps[k]):=h_ (by rw[Kv f l ps k hk2,<-HM.out]);generalize ps[k]=x at*;clear hc hk2 HM;obtain⟨j,th,is,K1,K2,F1,F2⟩:=KR.out wr m x Z7.out;replace K1:=h_ K1;replace K2:=h_ K2;have HF1:=h_ F1;have Xk:=h_ F2;clear F1 F2;cases th
   case true=>
    have HF:Hid (f m x=m):=h_ (HF1.out (.inl (by simp)));clear HF1 Xk K2;(go_wp2_with fail);refine az (K1.out _ cg) fun v1 hb1=>?_;clear K1 c0;(go_wp2_with fail);go_roundw
    case rel=>exact⟨k+1,m,by omega,by go_num,h_ (by rw[YJ.out,HF.out]),h_ (KB.out _ _ _ Z7.out hb1)⟩
    case measure=>simp[intOf];omega
   case false=>
    cases is
    case false=>
     have HF:Hid (f m x=m):=h_ (HF1.out (.inr (by simp)));clear HF1 Xk;(go_wp2_with fail);refine az (K1.out _ cg) fun v1 hb1=>?_;(go_wp2_with fail);refine az (K2.out _ hb1) fun v2 hb2=>?_;replace hb1:=ai hb1 hb2;clear hb2;clear K1 K2 c0;(go_wp2_with fail);go_roundw
     case rel=>exact⟨k+1,m,by omega,by go_num,h_ (by rw[YJ.out,HF.out]),h_ (KB.out _ _ _ Z7.out hb1)⟩
     case measure=>simp[intOf];omega
    case true=>
     clear HF1;(go_wp2_with fail);refine az (K1.out _ cg) fun v1 hb1=>?_;(go_wp2_with fail);refine az (K2.out _ hb1) fun v2 hb2=>?_;replace hb1:=ai hb1 hb2;clear hb2;clear K1 K2 c0;obtain⟨ad3,c3,c1,KI⟩:=Xk.out (by simp) (by simp) _ hb1;have HI:=h_ KI;clear KI Xk;have hmk:=fun w=>sj w x
     (go_wp2_with fail);refine(HI.out _ v2.heap.size cu (au _) (Has.new _ _)).mono ?_;rintro e v3 ⟨ad4,n4,c4,u,rfl,hcell,hfree,hst⟩;have HST:=h_ hst;clear hst HI c1 hmk;(go_wp2_with (first|(with_reducible refine SF rfl _ _ rfl ⟨s,1,none⟩ _ _ _ _ rfl rfl hfree hcell ?_)));go_roundw
     case rel=>exact⟨k+1,f m x,by omega,by go_num,h_ YJ.out.symm,HST⟩
     case measure=>simp[intOf];omega
  ·obtain rfl:k=n:=by omega
   obtain⟨YE,ad2,c2,c1⟩:=KL.out wr m Z7.out;have HE:m=R:=by rw[HM.out,HN.out,iY,HR.out]
   subst HE;clear HM;obtain⟨M,hM⟩:∃M,M=m.length:=⟨_,rfl⟩;rw[<-hM]at c1 YE;have wz:IntKind.i64.wrap ((M:Int)-(L:Int))=z:=by rw[IntKind.wrap_i64];have:=HZ.out;omega
   clear hM;go_wp2_with fail
   go_ret;exact⟨rfl,Z7.out⟩
def Vl(s:Nat)(x:Int)(v:Value)(k:Nat)(ad:Option Addr)(c:Nat):Nat->Value->Prop
 | 0,u=>u=af s
 | 1,u=>u=af s
 | 2,u=>u=af s
 | 3,u=>u=.pointer (some ⟨s,1,none⟩)
 | 4,u=>u=v
 | 5,u=>u=af s
 | 6,u=>u=i_ x
 | 7,u=>u=i_ k
 | 8,u=>u=.slice ad k c
 | 9,u=>u=af s
 | 10,u=>u=.pointer (some ⟨s,1,none⟩)
 | _,_=>s=s
theorem sX(w:World)(g:Nat):(Instr.fieldAt 129 (af g) 1).run Tryz.prog w=.ok (.pointer (some ⟨g,1,none⟩)) w:=by kernel_rfl
theorem xc(s:Nat)(q:Option Addr)(pa ad:Option Addr)(n c k:Nat)(hn:n<=1000)(hk:k<=n)(x:Int)(w:World)(hS:Has w s (qB q (.slice pa n c)) 129)(KA:bG w 99 #[.pointer (some ⟨s,0,none⟩),.int .i64 x] (.int .i64 (k:Int)))(KS:Hid (∀w',(Instr.sliceAt 49 (.slice pa n c) none (some (.int .i64 (k:Int))) none).run Tryz.prog w'=.ok (.slice ad k c) w')):aU 60 #[.pointer (some ⟨s,0,none⟩),.int .i64 x] w fun e w'=>e=.returned (.int .i64 ((n:Int)-(k:Int)))/\Has w' s (qB q (.slice ad k c)) 129/\Kp (fun i=>i=s) w w':=by
 have c1:=tD hS;obtain⟨z,hz⟩:∃z:Int,z=(n:Int)-(k:Int):=⟨_,rfl⟩;rw[<-hz];have wz:IntKind.i64.wrap ((n:Int)-(k:Int))=z:=by rw[IntKind.wrap_i64];omega
 have hsl:=Has.lt hS;clear hz;go_enter Tryz.func60,Tryz.ntmps60;go_upto_region 4 with fail
 clear c1;refine lG (by kernel_rfl) (fun w'=>Kp (fun i=>i=s) w w') (fun i v' _=>Vl s x (.slice pa n c) k ad c i v') (fun l _ w'=>Ph 11 (fun w'=>Bl w w'/\Has w' s (qB q (.slice pa n c)) 129) (fun w'=>Has w' s (qB q (.slice ad k c)) 129) l w') (fun _ _=>True) (fun _ _=>trivial) (fun _ _ _ _ _ _ h=>h) (by kernel_rfl) (DG _ w) ?_ ?_ ?_;exact fun l hl=>Ph.zero hl ⟨cg.drew,Has.drew hS⟩
 ·intro i o lz a wx ho' hnl dq Z;have hC:=Z.c;have hI:=Z.i;have hi:i<12:=(dA.1 ho').1;obtain rfl|rfl|rfl|rfl|rfl|rfl|rfl|rfl|rfl|rfl|rfl|rfl:i=0\/i=1\/i=2\/i=3\/i=4\/i=5\/i=6\/i=7\/i=8\/i=9\/i=10\/i=11:=by omega
  all_goals obtain rfl:=Option.some.inj ho'
  exact br 0 Z (aq rfl) (NN.fs rfl) (Z.old' 0) (hI.keep (aC Z 0));exact br 1 Z (aq rfl) (NN.fs rfl) (Z.old' 0) (hI.keep (aC Z 1));exact br 2 Z (aq rfl) (dR rfl (aw Z dq 1 14)) rfl (hI.keep (aC Z 2));exact br 3 Z (aq rfl) (fg rfl (aw Z dq 2 15) (sX wx s)) rfl (hI.keep (aC Z 3));have hsz:=aC Z 4;have Vu:=fB Z hnl 11;have hpre:=hI.pre Vu hsz (by decide);exact br 4 Z (aq rfl) (Ff rfl (aw Z dq 3 16) (tD hpre.2)) rfl (hI.keep hsz);exact br 5 Z (aq rfl) (NN.fs rfl) (Z.old' 0) (hI.keep (aC Z 5));exact br 6 Z (aq rfl) (NN.fs rfl) (Z.old' 1) (hI.keep (aC Z 6))
  ·have hsz:=aC Z 7;have Vu:=fB Z hnl 11;have hpre:=hI.pre Vu hsz (by decide);exact qF (S:=rQ) 7 Z (aq rfl) (f:=99) (args:=#[a.eval (.tmp 18),a.eval (.tmp 19)]) (by kernel_rfl) (by rw[show a.eval (.tmp 18)=_ from(aw Z dq 5 18)];rw[show a.eval (.tmp 19)=_ from(aw Z dq 6 19)];  exact KA.out wx hpre.1) (fun w' hb=>⟨hC.trans (Kp.of (F:=fun i=>i=s) hb) (fun _ h _=>h),trivial,rfl,Ph.made Vu (⟨ai hpre.1 hb,dz hb hpre.2 (Has.lt hpre.2)⟩)⟩)
  exact br 8 Z (aq rfl) (Gw rfl (aw Z dq 4 17) (aw Z dq 7 20) (KS.out wx)) rfl (hI.keep (aC Z 8));exact br 9 Z (aq rfl) (dR rfl (aw Z dq 0 13)) rfl (hI.keep (aC Z 9));exact br 10 Z (aq rfl) (fg rfl (aw Z dq 9 22) (sX wx s)) rfl (hI.keep (aC Z 10));have hsz:=aC Z 11;have hR0:=hI.1 hnl;exact uD 11 Z (aq rfl) (Et rfl (aw Z dq 10 23) (aw Z dq 8 21) (Has.free hR0.2 1) (tD hR0.2)) (hC.trans (Kp.gb (F:=fun i=>i=s) (jl wx s 1 _) (fun k hk=>(Option.some.inj hk).symm)) (fun _ h _=>h)) rfl (Ph.last hsz (wI hR0.2 _))
 intro lz a' v9 hall Z;have hK:=Z.c;have ZW:=Z.i.2 (hall 11 (by decide));have e0:a'.eval (.tmp 0)=.pointer (some ⟨s,0,none⟩):=Z.old' 0;have e5:a'.eval (.tmp 5)=.int .i64 (n:Int):=Z.old' 5;obtain⟨u,hu⟩:∃u:Nat->Value,∀t,u t=a'.eval (.tmp t):=⟨_,fun _=>rfl⟩;rw[iz a' 31 u Z.Vr Z.defers hu];rw[<-hu]at e0 e5;clear hu Z hall;simp only[List.range,List.range.loop,bZ,cx];rw[e0,e5];clear e0 e5;have c1:=tD ZW;go_wp2_with fail
 go_ret;exact⟨rfl,ZW,hK⟩
theorem IJ(s:Nat)(q:Option Addr)(v:Value)(hv:∃a n c,v=.slice a n c)(P:World->World->Value->Prop)(w:World)(hS:Has w s (qB q v) 129)(KC:Hid (aU 100 #[v] w fun e w'=>∃v',e=.returned v'/\P w w' v')):aU 61 #[af s] w fun e w'=>∃v',e=.returned v'/\P w w' v':=by
 have c1:=tD hS;obtain⟨a,n,c,rfl⟩:=hv;clear hS;go_enter Tryz.func61,Tryz.ntmps61;go_wp2_with fail
 refine KC.out.mono ?_;rintro e v1 ⟨v',rfl,hp⟩;have HP:=h_ hp;clear hp c1;go_wp2_with fail
 go_ret;exact⟨v',rfl,HP.out⟩
theorem Kf(q:Option Addr):Tryz.prog.built 129 [(0,.pointer q)]=some (qB q (.slice none 0 0)):=by kernel_rfl
theorem Fo(q:Option Addr)(w:World):aU 56 #[.pointer q] w fun e w'=>e=.returned (.pointer (some ⟨w.heap.size,0,none⟩))/\w'=w.alloc (.cells (qB q (.slice none 0 0)) 129):=by
 have hbu:=Kf q;go_enter Tryz.func56,Tryz.ntmps56;go_wp2_with fail
 go_ret;exact⟨rfl,rfl⟩
end An
namespace An
open Mem Sc
open Ar (av Ru aN Ok dB)
open Tp (nJ kK spot ins)
def zs(l:List Nat):List Int:=l.map fun(k:Nat)=>(k:Int)
theorem CK(w:World):jG w (.slice none 0 0) []:=lf _ _ _ _
theorem kr(l:List Nat):(zs l).length=l.length:=dS ..
theorem n8(l:List Nat)(i:Nat)(hi:i<(zs l).length):(zs l)[i]=((l[i]'(by rwa[kr]at hi):Nat):Int):=by simp[zs]
structure qA (r:Ru) (M:List av) (l:List Nat):Prop where
 jA:kK (Hv r M) l
 lt:∀x∈l,x<M.length
theorem qA.nil(r:Ru)(M:List av):qA r M []:=⟨kK.nil _,fun x h=>by simp at h⟩
theorem qA.few{r:Ru}{M:List av}{l:List Nat}(h:qA r M l):l.length<=M.length:=FQ (h.jA.nodup (ir r M)) h.lt
def fL(w:World)(F:Nat->Prop)(q:Option Addr)(r:Ru)(M:List av):Prop:=(∃bt ls,q=some ⟨bt,0,none⟩/\jU w F bt r M ls)\/(q=none/\M=[])
def iM(w:World)(G:Nat->Prop)(s:Nat)(q:Option Addr)(l:List Nat):Prop:=(∀i,G i->i<w.heap.size)/\∃v,Has w s (qB q v) 129/\jG w v (zs l)/\G s/\(∀i,v.ownBlock=some i->G i)/\∀i,v.ownBlock=some i->i≠s
section
variable{w w':World}{F G:Nat->Prop}{s:Nat}{q:Option Addr}{r:Ru}{M:List av}{l:List Nat}
variable{D:Nat->Prop}
theorem fL.on(h:fL w F q r M)(k:Kp D w w')(hD:∀i,F i->¬D i):fL w' F q r M:=
 h.imp (fun⟨bt,ls,e,hS⟩=>⟨bt,ls,e,hS.on k hD⟩) id
theorem fL.below(h:fL w F q r M)(hb:Bl w w'):fL w' F q r M:=h.on (D:=fun _=>False) (Kp.of hb) fun _ _ hf=>hf
theorem iM.on(h:iM w G s q l)(k:Kp D w w')(hD:∀i,G i->¬D i):iM w' G s q l:=by obtain⟨h0,v,h1,h2,h3,h4,h5⟩:=h;exact⟨fun i hi=>b_ (h0 i hi) k.size,v,k.has h1 (hD s h3),aF h2 k fun i hi=>hD i (h4 i hi),h3,h4,h5⟩
theorem iM.below(h:iM w G s q l)(hb:Bl w w'):iM w' G s q l:=h.on (D:=fun _=>False) (Kp.of hb) fun _ _ hf=>hf
theorem iM.wide{G':Nat->Prop}(h:iM w G s q l)(hG:∀i,G i->G' i)(hl:∀i,G' i->i<w.heap.size):iM w G' s q l:=by obtain⟨h0,v,h1,h2,h3,h4,h5⟩:=h;exact⟨hl,v,h1,h2,hG s h3,fun i hi=>hG i (h4 i hi),h5⟩
theorem ui{v:Value}{l:List Int}(h:jG w v l):∃a c,v=.slice a l.length c/\mA w a l:=by
 rcases xd h with⟨rfl,rfl⟩|⟨g,c,S,rfl,hg,hc,hm⟩
 exact⟨none,0,rfl,fun i hi=>by simp at hi⟩;refine⟨some ⟨g,0,none⟩,c,rfl,fun i hi=>⟨g,rfl,?_⟩⟩;rw[hg.cell i,dg,dm (by simpa using hi),eK,aQ hi];rfl
theorem fL.VB(h:fL w F q r M)(x y:Int)(g:Bool)(hg:rR r M x y g):ar 31 #[.pointer q,i_ x,i_ y] w (.bool g):=by
 rcases h with⟨bt,ls,rfl,hS⟩|⟨rfl,rfl⟩
 exact J5 hS x y g hg
 ·have:g=false:=by
   rcases hg with⟨_,h⟩|⟨h,_⟩|⟨n,m,e,d,_,_,h,_⟩
   exact h;exact absurd (Int.lt_of_le_of_lt h.1 h.2) (Int.lt_irrefl _);simp at h
  subst this;exact My x y w
theorem fL.at(h:fL w F q r M)(x:Int):∃e:En,e.ok/\∀w',Bl w w'->ar 29 #[.pointer q,i_ x] w' (.tuple #[.agg (dc e),.bool (decide (0<=x/\x<(M.length:Int)))]):=by
 rcases h with⟨bt,ls,rfl,hS⟩|⟨rfl,rfl⟩
 ·by_cases hx:0<=x/\x<(M.length:Int)
  ·obtain⟨n,rfl⟩:=eG hx.1;have hn:n<M.length:=by omega
   obtain⟨Fa,ab,k1,k2⟩:=hS.parts;refine⟨_,nj k2 (aQ hn),fun w' hb=>?_⟩;rw[aG hx];exact iq (hS.below hb) (aQ hn) _ rfl
  refine⟨pn,gC,fun w' hb=>?_⟩;rw[aE hx];exact uK (hS.below hb) x hx
 refine⟨pn,gC,fun w' _=>?_⟩;rw[aE (fun h=>absurd (Int.lt_of_le_of_lt h.1 h.2) (Int.lt_irrefl _))];exact Av x w'
end
def mR(l:List Nat)(x:Int):Bool:=decide (0<=x)&&decide (x.toNat∈l)
theorem Fk(l:List Nat)(k:Nat):mR l (k:Int)=decide (k∈l):=by simp[mR]
def vu(r:Ru)(M:List av)(l:List Nat)(x:Int):Nat:=if 0<=x/\x<(M.length:Int)then spot (Hv r M) l x.toNat else l.length
theorem Um{r:Ru}{M:List av}{l:List Nat}(h:qA r M l){x:Int}(hx:mR l x=true):0<=x/\x<(M.length:Int):=by unfold mR at hx;simp only[dv,fp]at hx;have:=h.lt _ hx.2;omega
section
variable{w:World}{F G:Nat->Prop}{s:Nat}{q:Option Addr}{r:Ru}{M:List av}{l:List Nat}
theorem AY(hQ:fL w F q r M)(hS:iM w G s q l)(hI:qA r M l)(hM:M.length<=900)(x:Int):ar 96 #[af s,i_ x] w (.tuple #[i_ (vu r M l x:Int),.bool (mR l x)]):=by
 obtain⟨_,v,h1,h2,_⟩:=hS;obtain⟨a,c,rfl,hC⟩:=ui h2;have hf:=hI.few;have ht:=ir r M;by_cases hx:0<=x/\x<(M.length:Int)
 ·obtain⟨n,rfl⟩:=eG hx.1;have hn:n<M.length:=by omega
  have ek:vu r M l (n:Int)=spot (Hv r M) l n:=by unfold vu;rw[aj hx,bU]
  rw[ek];have hsl:=Tp.Ap (Hv r M) l n;have hz:=kr l;refine vL s q a (zs l) (zs l).length c (n:Int) (spot (Hv r M) l n) (fun i=>!(Hv r M (l.getD i 0) n)) rfl (by omega) (by omega) (h_ fun i hi=>?_) (h_ fun i hi hil=>?_) _ (h_ fun h=>?_) (fun h=>?_) w h1 hC (h_ fun w' i hi hb=>?_);have:=Tp.AH (H:=Hv r M) (x:=n) (l:=l) (i:=i) (by omega) hi;rw[dC,aQ (by omega)];simp[this];have:=Tp.Qi ht hI.jA (x:=n) (i:=i) (by omega) hi;rw[dC,aQ (by omega)];simp[this]
  ·rw[Fk,n8];have hm:=Tp.JQ ht hI.jA (x:=n);have hl:spot (Hv r M) l n<l.length:=by rw[<-hz];exact h
   rw[gJ,jq,decide_eq_true_iff,hm];exact⟨fun e=>⟨hl,by omega⟩,fun⟨_,e⟩=>by omega⟩
  rw[Fk,lk,Tp.JQ ht hI.jA];rintro⟨hl,_⟩;omega
  ·have hil:i<l.length:=by rw[<-hz];exact hi
   rw[n8,Bool.not_not,dC,aQ hil];exact(hQ.below hb).VB _ _ _ (rR.place (hI.lt _ (ij hil)) hn)
 ·have ei:mR l x=false:=by
   cases e:mR l x with
   | false=>rfl
   | true=>exact absurd (Um hI e) hx
  have ek:vu r M l x=l.length:=by unfold vu;rw[ah hx]
  rw[ei,ek];have hz:=kr l;refine vL s q a (zs l) (zs l).length c x l.length (fun i=>false) rfl (by omega) (by omega) (h_ fun i hi=>rfl) (h_ fun i hi hil=>by omega) _ (h_ fun h=>by omega) (fun h=>rfl) w h1 hC (h_ fun w' i hi hb=>?_);have hil:i<l.length:=by rw[<-hz];exact hi
  have hlt:=hI.lt _ (ij hil);rw[n8];exact(hQ.below hb).VB _ _ _ (.inr (.inl ⟨⟨by omega,by omega⟩,hx,rfl⟩))
def oO(r:Ru)(M:List av)(l:List Nat)(x:Int):Nat:=if 0<=x/\x<(M.length:Int)then Tp.ig (Hv r M) l x.toNat else l.length
theorem OX(H:Nat->Nat->Bool)(l:List Nat)(x:Nat):Tp.ig H l x<=l.length:=(List.takeWhile_sublist _).length_le
theorem PU{H:Nat->Nat->Bool}{x:Nat}:∀{l:List Nat}{i:Nat}(h:i<l.length),i<Tp.ig H l x->H x l[i]=false
 | [],i,h,_=>by simp at h
 | a::l,i,h,hi=>by
  cases e:H x a with
  | true=>simp[Tp.ig,e]at hi
  | false=>
   cases i with
   | zero=>simpa using e
   | succ i=>
    simp[Tp.ig,e]at hi;simpa using PU (H:=H) (x:=x) (l:=l) (i:=i) (by simpa using h) hi
theorem Qw{H:Nat->Nat->Bool}(t:nJ H){x:Nat}:∀{l:List Nat},kK H l->∀{i:Nat}(h:i<l.length),Tp.ig H l x<=i->H x l[i]=true
 | [],_,i,h,_=>by simp at h
 | a::l,hs,i,h,hi=>by
  have hc:=mn.1 hs;cases e:H x a with
  | true=>
   cases i with
   | zero=>simpa using e
   | succ i=>
    have:=hc.1 (l[i]'(by simpa using h)) (ij _);simpa using t.trans _ _ _ e this
  | false=>
   cases i with
   | zero=>simp[Tp.ig,e]at hi
   | succ i=>
    simp[Tp.ig,e]at hi;simpa using Qw t (x:=x) hc.2 (i:=i) (by simpa using h) hi
theorem rV{x:Int}:oO r M l x<=l.length:=by unfold oO;split;exact OX _ _ _;exact au _
theorem LU(hQ:fL w F q r M)(hS:iM w G s q l)(hI:qA r M l)(hM:M.length<=900)(x:Int):ar 99 #[af s,i_ x] w (i_ (oO r M l x:Int)):=by
 obtain⟨_,v,h1,h2,_⟩:=hS;obtain⟨a,c,rfl,hC⟩:=ui h2;have hf:=hI.few;have ht:=ir r M;have hz:=kr l;by_cases hx:0<=x/\x<(M.length:Int)
 ·obtain⟨n,rfl⟩:=eG hx.1;have hn:n<M.length:=by omega
  have ek:oO r M l (n:Int)=Tp.ig (Hv r M) l n:=by unfold oO;rw[aj hx,bU]
  rw[ek];have hsl:=OX (Hv r M) l n;refine C5 s q a (zs l) (zs l).length c (n:Int) (Tp.ig (Hv r M) l n) (fun i=>Hv r M n (l.getD i 0)) rfl (by omega) (by omega) (h_ fun i hi=>?_) (h_ fun i hi hil=>?_) w h1 hC (h_ fun w' i hi hb=>?_);have:=PU (H:=Hv r M) (x:=n) (l:=l) (i:=i) (by omega) hi;rw[dC,aQ (by omega)];exact this;have:=Qw ht (x:=n) hI.jA (i:=i) (by omega) hi;rw[dC,aQ (by omega)];exact this
  ·have hil:i<l.length:=by rw[<-hz];exact hi
   rw[n8,dC,aQ hil];exact(hQ.below hb).VB _ _ _ (rR.place hn (hI.lt _ (ij hil)))
 ·have ek:oO r M l x=l.length:=by unfold oO;rw[ah hx]
  rw[ek];refine C5 s q a (zs l) (zs l).length c x l.length (fun i=>false) rfl (by omega) (by omega) (h_ fun i hi=>rfl) (h_ fun i hi hil=>by omega) w h1 hC (h_ fun w' i hi hb=>?_);exact(hQ.below hb).VB _ _ _ (.inl ⟨hx,rfl⟩)
theorem Gc(hS:iM w G s q l)(hl:l.length<=1000):aU 61 #[af s] w fun e w'=>∃v',e=.returned v'/\jG w' v' (zs l)/\(∀k,v'.ownBlock=some k->w.heap.size<=k)/\Bl w w':=by obtain⟨_,v,h1,h2,_⟩:=hS;obtain⟨a,c,e,_⟩:=ui h2;exact IJ s q v ⟨a,_,c,e⟩ (fun w w' v'=>jG w' v' (zs l)/\(∀k,v'.ownBlock=some k->w.heap.size<=k)/\Bl w w') w h1 (h_ (JR h2 (by rw[kr];exact hl)))
theorem A2(q:Option Addr)(w:World):aU 56 #[.pointer q] w fun e w'=>∃s,e=.returned (af s)/\w.heap.size<=s/\iM w' (fun i=>i=s) s q []/\Bl w w':=by refine(Fo q w).mono ?_;rintro e w' ⟨rfl,rfl⟩;refine⟨_,rfl,au _,⟨fun i hi=>?_,.slice none 0 0,Has.new _ _,CK _,rfl,fun i hi=>?_,fun i hi=>?_⟩,cu⟩;rw[hi];simp;cases hi;cases hi
end
def lS(r:Ru)(M:List av)(l:List Nat)(x:Int):List Nat:=if mR l x=true then l else if 0<=x/\x<(M.length:Int)then ins (Hv r M) l x.toNat else l
section
variable{r:Ru}{M:List av}{l:List Nat}
theorem Dg(h:qA r M l)(x:Int):qA r M (lS r M l x):=by
 unfold lS;by_cases h1:mR l x=true;rw[aj h1];exact h
 ·rw[ah h1];by_cases h2:0<=x/\x<(M.length:Int)
  ·rw[aj h2];have hx:x.toNat∉l:=fun hc=>h1 (by unfold mR;simp[h2.1,hc])
   refine⟨h.jA.ins (ir r M) hx,fun y hy=>?_⟩;rcases Tp.wS.1 hy with rfl|hy
   omega;exact h.lt y hy
  rw[ah h2];exact h
theorem L7(x:Int)(y:Nat):y∈lS r M l x↔y∈l\/(y:Int)=x/\y<M.length:=by unfold lS;by_cases h1:mR l x=true;rw[aj h1];refine⟨.inl,fun hy=>hy.elim id fun hy=>?_⟩;rw[<-hy.1,Fk]at h1;exact dX h1;rw[ah h1];by_cases h2:0<=x/\x<(M.length:Int);rw[aj h2,Tp.wS];constructor;rintro(hy|hy);exact .inr ⟨by omega,by omega⟩;exact .inl hy;rintro(hy|hy);exact .inr hy;exact .inl (by omega);rw[ah h2];exact⟨.inl,fun hy=>hy.elim id fun hy=>absurd (by omega) h2⟩
end
section
variable{w:World}{F G:Nat->Prop}{s:Nat}{q:Option Addr}{r:Ru}{M:List av}{l:List Nat}
theorem F4{w w1 w2:World}(h:w1.heap.size<=w2.heap.size):∀i,mD G w w1 i->mD G w w2 i:=fun _ hi=>hi.imp id fun hi=>⟨hi.1,by omega⟩
def yr(w:World)(G:Nat->Prop)(s:Nat)(q:Option Addr)(r:Ru)(M:List av)(wr:World)(m:List Nat):Prop:=iM wr (mD G w wr) s q m/\qA r M m/\Kp G w wr
theorem yr.below{wr wr':World}{m:List Nat}(hG:∀i,G i->i<w.heap.size)(h:yr w G s q r M wr m)(hb:Bl wr wr'):yr w G s q r M wr' m:=by obtain⟨h1,h2,h3⟩:=h;have hs:=hb.size;have hs0:=h3.size;refine⟨(h1.below hb).wide (F4 hs) fun i hi=>hi.elim (fun hi=>by have:=hG i hi;omega) (fun hi=>hi.2),h2,h3.trans (Kp.of (F:=fun _=>False) hb) fun _ hf _=>hf.elim⟩
theorem Ay(hG:∀i,G i->i<w.heap.size){w1 w2 w3:World}{m m':List Nat}{v v':Value}(h:yr w G s q r M w1 m)(hv:Has w1 s (qB q v) 129)(hb:Bl w1 w2)(hP:LX w2 w3 v (zs m') v')(hI:qA r M m'):Cx s (yr w G s q r M) m' (.returned v') w3:=by
 obtain⟨⟨h0,v0,h1,h2,h3,h4,h5⟩,_,hK⟩:=h
 obtain rfl:v0=v:=by
  have e:=(tD h1).symm.trans (tD hv);exact Option.some.inj e
 have hs2:=dz hb hv (Has.lt hv);have hl1:=Has.lt hv;obtain⟨hr,ho,hk⟩:=hP;have hs3:=hk.has hs2 (fun e=>h5 s e rfl);obtain⟨ad,c,rfl,_⟩:=ui hr;have am8:=hb.size;have am9:=hk.size;have an0:=hK.size;have ne:∀i,(Value.slice ad (zs m').length c).ownBlock=some i->i≠s:=fun i hi=>ho.elim (fun e=>h5 i (by rw[<-e];exact hi)) (fun⟨g,e,hg⟩=>by rw[hi]at e;cases e;omega)
 have ak2:(w3.setCell ⟨s,1,none⟩ (.slice ad (zs m').length c)).heap.size=w3.heap.size:=by simp[World.setCell]
 have k4:Kp (fun i=>i=s) w3 (w3.setCell ⟨s,1,none⟩ (.slice ad (zs m').length c)):=Kp.gb (jl w3 s 1 _) (fun k hk=>(Option.some.inj hk).symm);refine⟨ad,_,c,v0,rfl,tD hs3,Has.free hs3 1,⟨fun i hi=>?_,_,wI hs3 _,aF hr k4 ne,F4 (by omega) s h3,fun i hi=>?_,ne⟩,hI,?_⟩;exact hi.elim (fun hi=>by have:=hG i hi;omega) (fun hi=>hi.2)
 ·rcases ho with e|⟨g,e,hg⟩
  exact F4 (by omega) i (h4 i (by rw[<-e];exact hi));rw[hi]at e;cases e;exact .inr ⟨by omega,by rw[ak2];exact(dM hr hi).1⟩
 ·refine((hK.trans (Kp.of (F:=fun _=>False) hb) (fun _ hf _=>hf.elim)).trans hk fun i hi hlt=>?_).trans k4 fun i hi hlt=>?_
  exact(h4 i hi).elim id fun hh=>by omega
  subst hi;exact h3.elim id fun hh=>by omega
theorem DY(hS:iM w G s q l):∃ad c,Has w s (qB q (.slice ad l.length c)) 129/\jG w (.slice ad l.length c) (zs l):=by obtain⟨_,v,h1,h2,_⟩:=hS;obtain⟨a,c,rfl,_⟩:=ui h2;rw[kr]at h1 h2;exact⟨a,c,h1,h2⟩
theorem A3(hS:iM w G s q l){v:Value}(hv:Has w s (qB q v) 129):∀i,v.ownBlock=some i->i<w.heap.size:=by obtain⟨h0,v0,h1,h2,_,h4,_⟩:=hS;obtain rfl:v0=v:=Option.some.inj ((tD h1).symm.trans (tD hv));exact fun i hi=>h0 i (h4 i hi)
def yR(w:World)(G:Nat->Prop)(a:Option Addr)(ps:List Int):Prop:=0<ps.length->∃ab ao,a=some ⟨ab,ao,none⟩/\ab<w.heap.size/\¬G ab/\∀i (hi:i<ps.length),w.cell? ⟨ab,ao+i,none⟩=some (i_ ps[i])
theorem yR.below{w w':World}{a:Option Addr}{ps:List Int}{G:Nat->Prop}(h:yR w (fun _=>False) a ps)(hb:Bl w w')(hG:∀i,G i->w.heap.size<=i):yR w' G a ps:=fun h0=>by
 obtain⟨ab,ao,e,hlt,_,hc⟩:=h h0;exact⟨ab,ao,e,b_ hlt hb.size,fun hg=>absurd (hG ab hg) (by omega),fun i hi=>(hb.cell (p:=⟨ab,ao+i,none⟩) hlt).trans (hc i hi)⟩
theorem Ab(l:List Nat)(k:Nat):(zs l).take k=zs (l.take k):=by simp[zs]
theorem z7(l:List Nat)(k:Nat):(zs l).drop k=zs (l.drop k):=by simp[zs]
theorem pB(a b:List Nat):zs (a++b)=zs a++zs b:=by simp[zs]
theorem pj(hQ:fL w F q r M)(hS:iM w G s q l)(hFG:∀i,F i->¬G i)(hI:qA r M l)(hM:M.length<=900)(a:Option Addr)(n c:Nat)(ps:List Int)(hn:n=ps.length)(hn2:n<=1000)(hA:yR w G a ps):aU 59 #[af s,.slice a n c] w fun e w'=>e=.returned (i_ (((ps.foldl (lS r M) l).length:Int)-(l.length:Int)))/\yr w G s q r M w' (ps.foldl (lS r M) l):=by
 have hG:=hS.1;refine Fz s a n c ps (h_ hn) hn2 (yr w G s q r M) (lS r M) l w (h_ ⟨hS.wide (fun i hi=>.inl hi) (fun i hi=>hi.elim (hG i) (fun hi=>hi.2)),hI,Kp.refl _ _⟩) (h_ fun wr wr' m h hb=>h.below hG hb) (h_ fun wr m h=>?_) (h_ fun wr m h hn0=>?_) (h_ fun wr m x h=>?_);obtain⟨ad,c,h1,_⟩:=DY h.1;exact⟨by have:=h.2.1.few;omega,ad,c,tD h1⟩;obtain⟨ab,ao,e,hlt,hng,hc⟩:=hA (by omega);exact⟨ab,ao,e,fun i hi=>(iZ (h.2.2.block ab hlt hng)).trans (hc i hi)⟩
 ·have hQ':=hQ.on h.2.2 hFG;obtain⟨e,he,hat⟩:=hQ'.at x;refine⟨vu r M m x,mR m x,decide (0<=x/\x<(M.length:Int)),fun w' hb=>AY (hQ'.below hb) (h.1.below hb) h.2.1 hM x,fun w' hb=>?_,fun hh=>?_,fun h1 h2 w' hb=>?_⟩;obtain⟨ad,c,h1,_⟩:=DY (h.1.below hb);exact IH s q _ x e he _ w' h1 (h_ fun w'' hb'=>hat w'' (ai hb hb'))
  ·unfold lS;rcases hh with hh|hh
   rw[aj hh]
   ·by_cases h1:mR m x=true;rw[aj h1];rw[ah h1,ah (fc hh)]
  ·have h':=h.below hG hb;obtain⟨ad,c,g1,g2⟩:=DY h'.1;have h2':=dX h2;refine⟨ad,c,tD g1,fun w2 vb hb2 w8 hx=>?_⟩;have ek:vu r M m x=spot (Hv r M) m x.toNat:=by unfold vu;rw[aj h2']
   have hle:=Tp.Ap (Hv r M) m x.toNat;have g3:jG w2 (.slice ad m.length c) (zs m):=aF g2 (Kp.of (F:=fun _=>False) hb2) (fun _ _ h=>h);have hf:=h.2.1.few;have hz:=kr m;refine(K6 g3 (vu r M m x) (by rw[hz,ek];exact hle) (by omega) vb x hx (fun k hk=>by have:=A3 h'.1 g1 k hk;omega)).mono ?_;rintro e w3 ⟨v',rfl,hP⟩;refine Ay hG h' g1 hb2 ?_ (Dg h.2.1 x)
   have ep:zs (lS r M m x)=(zs m).take (vu r M m x)++x::(zs m).drop (vu r M m x):=by
    unfold lS;rw[ah (by rw[h1];simp),aj h2',ek,Ab,z7];unfold ins;rw[pB];congr 1;show((x.toNat:Nat):Int)::_=_;rw[Int.toNat_of_nonneg h2'.1];rfl
   rw[ep];exact hP
theorem xX(a:Option Addr)(n c k:Nat)(hk:k<=n)(hc:n<=c)(hn:a=none->n=0/\c=0)(hp:∀x,a=some x->∃g,x=⟨g,0,none⟩)(w:World):(Instr.sliceAt 49 (.slice a n c) none (some (i_ k)) none).run Tryz.prog w=.ok (.slice a k c) w:=by
 cases a with
 | none=>
  obtain⟨rfl,rfl⟩:=hn rfl;obtain rfl:k=0:=by omega
  kernel_rfl
 | some x=>
  obtain⟨g,rfl⟩:=hp x rfl;go_simp
  intro h;omega
theorem By(hQ:fL w F q r M)(hS:iM w G s q l)(hI:qA r M l)(hM:M.length<=900)(x:Int):aU 60 #[af s,i_ x] w fun e w'=>e=.returned (i_ ((l.length:Int)-(oO r M l x:Int)))/\yr w G s q r M w' (l.take (oO r M l x)):=by
 have hf:=hI.few;have hle:=rV (r:=r) (M:=M) (l:=l) (x:=x);obtain⟨h0,v,h1,h2,h3,h4,h5⟩:=hS;have hS':iM w G s q l:=⟨h0,v,h1,h2,h3,h4,h5⟩;have hI':qA r M (l.take (oO r M l x)):=⟨hI.jA.sub (List.take_sublist _ _),fun y hy=>hI.lt y (List.mem_of_mem_take hy)⟩;have hz:=kr l;rcases xd h2 with⟨rfl,hl0⟩|⟨g,c,S,rfl,hg,hc,hm⟩
 ·have hl:l=[]:=List.map_eq_nil_iff.1 hl0;subst hl;refine(xc s q none none 0 0 0 (by decide) (au _) x w h1 (h_ fun w' hb=>?_) (h_ fun w'=>xX none 0 0 0 (au _) (au _) (fun _=>⟨rfl,rfl⟩) (fun _ h=>by cases h) w')).mono ?_
  ·have:=LU (hQ.below hb) (hS'.below hb) hI hM x;have e:oO r M [] x=0:=by have:=rV (r:=r) (M:=M) (l:=[]) (x:=x);simpa using this
   rwa[e]at this
  ·rintro e w' ⟨rfl,hs',hk⟩;have e0:oO r M [] x=0:=by have:=rV (r:=r) (M:=M) (l:=[]) (x:=x);simpa using this
   refine⟨by rw[e0];rfl,⟨fun i hi=>hi.elim (fun hi=>b_ (h0 i hi) hk.size) (fun hi=>hi.2),_,hs',by rw[List.take_nil];exact CK _,.inl h3,fun i hi=>(by cases hi),fun i hi=>(by cases hi)⟩,hI',hk.mono fun i hi _=>hi▸h3⟩
 ·rw[hz]at h1;refine(xc s q (bs g) (bs g) l.length c (oO r M l x) (by omega) hle x w h1 (h_ fun w' hb=>LU (hQ.below hb) (hS'.below hb) hI hM x) (h_ fun w'=>xX _ _ _ _ hle (by omega) (fun h=>by cases h) (fun y h=>⟨g,(Option.some.inj h).symm⟩) w')).mono ?_;rintro e w' ⟨rfl,hs',hk⟩;have hgs:g≠s:=h5 g rfl;have hg':Has w' g ((zs l).map (Value.int .i64)++S).toArray 3:=hk.has hg hgs;refine⟨rfl,⟨fun i hi=>hi.elim (fun hi=>b_ (h0 i hi) hk.size) (fun hi=>hi.2),_,hs',tZ (S:=(zs (l.drop (oO r M l x))).map (Value.int .i64)++S) ?_ ?_ hm ?_,.inl h3,fun i hi=>.inl (h4 i hi),fun i hi=>h5 i hi⟩,hI',hk.mono fun i hi _=>hi▸h3⟩
  ·have e:(zs l).map (Value.int .i64)=(zs (l.take (oO r M l x))).map (Value.int .i64)++(zs (l.drop (oO r M l x))).map (Value.int .i64):=by rw[<-List.map_append,<-pB,iN]
   rw[e,iS]at hg';exact hg'
  rw[aT,dS,kr,kr,eM,gD];omega;rw[kr,eM];omega
end
end An
end Go.Proofs.YtkbjaadjnbgfbaaGreatDoor
namespace Go.Proofs.YtkbjaadjnbgfbaaGreatDoor
open Go.RowKit
namespace An
open Mem Sc NN.VI
open Ar (av Ru aN Ok dB Row dV Up fR gS)
open Mk (ik jS aP pb verdict cZ cG iH word fX)
open Tp (kK nJ ins spot)
def oQ(w:World)(q:Option Addr)(r:Ru)(M:List av)(s:Nat)(wr:World)(l:List Nat):Prop:=∃G,(∀i,G i->w.heap.size<=i)/\iM wr G s q l/\qA r M l/\Bl w wr
section
variable{w wr w':World}{q:Option Addr}{r:Ru}{M:List av}{s:Nat}{l:List Nat}
theorem oQ.Xm(h:oQ w q r M s wr l):Bl w wr:=by obtain⟨_,_,_,_,h⟩:=h;exact h
theorem oQ.few(h:oQ w q r M s wr l):l.length<=M.length:=by obtain⟨_,_,_,h,_⟩:=h;exact h.few
theorem oQ.below(h:oQ w q r M s wr l)(hb:Bl wr w'):oQ w q r M s w' l:=by obtain⟨G,h1,h2,h3,h4⟩:=h;exact⟨G,h1,h2.below hb,h3,ai h4 hb⟩
theorem oQ.of{w2:World}{G:Nat->Prop}{l':List Nat}(hG:∀i,G i->w.heap.size<=i)(hb:Bl w w2)(h:yr w2 G s q r M w' l'):oQ w q r M s w' l':=⟨mD G w2 w',fun i hi=>hi.elim (hG i) (fun hi=>ax hb.size hi.1),h.1,h.2.1,hb.trans (h.2.2.below hG hb.size)⟩
theorem oQ.put(h:oQ w q r M s wr l)(KQ:og w fun w'=>∃F,fL w' F q r M/\∀i,F i->i<w.heap.size)(hM:M.length<=900){g:Nat}{x z:Int}(hz:z=((lS r M l x).length:Int)-(l.length:Int))(hb:Bl wr w')(hg:wr.heap.size<=g)(hx:Has w' g #[i_ x] 3):aU 59 #[af s,.slice (bs g) 1 1] w' fun e w''=>e=.returned (i_ z)/\oQ w q r M s w'' (lS r M l x):=by
 obtain⟨G,h1,h2,h3,h4⟩:=h;have h5:=ai h4 hb;obtain⟨F,hQ,hF⟩:=KQ.out _ h5;subst hz;refine(pj (ps:=[x]) hQ (h2.below hb) (fun i hi hg=>by have:=hF i hi;have:=h1 i hg;omega) h3 hM (bs g) 1 1 rfl (by decide) (fun _=>⟨g,0,rfl,hx.lt,fun hG=>by have:=h2.1 g hG;omega,fun i hi=>?_⟩)).mono fun e w'' hh=>⟨hh.1,oQ.of h1 h5 hh.2⟩
 obtain rfl:i=0:=by simp at hi;omega
 rw[Has.cell hx];rfl
theorem oQ.trim(h:oQ w q r M s wr l)(KQ:og w fun w'=>∃F,fL w' F q r M/\∀i,F i->i<w.heap.size)(hM:M.length<=900)(x:Int):∃z:Int,aU 60 #[af s,i_ x] wr fun e w''=>e=.returned (i_ z)/\oQ w q r M s w'' (l.take (oO r M l x)):=by obtain⟨G,h1,h2,h3,h4⟩:=h;obtain⟨F,hQ,hF⟩:=KQ.out _ h4;exact⟨_,(By hQ h2 h3 hM x).mono fun e w'' hh=>⟨hh.1,oQ.of h1 h4 hh.2⟩⟩
def uu(w w':World)(v:Value)(l:List Int):Prop:=jG w' v l/\∀k,v.ownBlock=some k->w.heap.size<=k
theorem oQ.all(h:oQ w q r M s wr l)(hM:M.length<=900):aU 61 #[af s] wr fun e w''=>∃v,e=.returned v/\uu w w'' v (zs l)/\Bl w w'':=by have hf:=h.few;obtain⟨G,h1,h2,h3,h4⟩:=h;refine(Gc h2 (by omega)).mono ?_;rintro e w'' ⟨v,rfl,hv,ho,hb⟩;exact⟨v,rfl,⟨hv,fun k hk=>ax h4.size (ho k hk)⟩,ai h4 hb⟩
end
def pw(r:Ru)(M:List av)(V:Int->Bool):Nat->List Nat
 | 0=>[]
 | k+1=>if V (k:Int)=true then lS r M (pw r M V k) (k:Int)else pw r M V k
def oU(r:Ru)(M:List av)(V:Int->Bool)(n:Nat)(tip:Int):List Nat:=if V tip=true then(pw r M V n).take (oO r M (pw r M V n) tip)else pw r M V n
variable{w w0:World}
theorem Mg(cq tq mq:Option Addr)(tip:Int)(n:Nat)(r:Ru)(M:List av)(hn:n=M.length)(hM:M.length<=900)(V:Int->Bool)(KT:bG w 25 #[.pointer cq] (.pointer tq))(KM:bG w 26 #[.pointer cq] (.pointer mq))(KP:bG w 18 #[.pointer cq] (i_ tip))(KL:bG w 57 #[.pointer tq] (i_ n))(KV:Hid (∀w' (z:Int),Bl w w'->ar 58 #[.pointer mq,i_ z] w' (.bool (V z))))(KQ:og w fun w'=>∃F,fL w' F tq r M/\∀i,F i->i<w.heap.size):aU 24 #[.pointer cq] w fun e w'=>∃v,e=.returned v/\uu w w' v (zs (oU r M V n tip))/\Bl w w':=by
 have hB:=aA w.heap.size w;have HM:=h_ hM;have Xc:n<=900:=by rw[hn];exact hM
 clear hn hM;go_enter Tryz.func24,Tryz.ntmps24;go_wp2_with fail
 refine az (KT.out _ hB) fun v0 hb=>?_;replace hB:=ai hB hb;clear hb;go_wp2_with fail
 refine az (KM.out _ hB) fun v01 hb=>?_;replace hB:=ai hB hb;clear hb;go_wp2_with fail
 refine az (KP.out _ hB) fun v1 hb=>?_;replace hB:=ai hB hb;clear hb;go_wp2_with fail
 refine(A2 tq v1).mono ?_;rintro e v2 ⟨s,rfl,hs,hS,hb⟩;have hH:oQ w tq r M s v2 []:=⟨_,fun i hi=>by subst hi;exact ax hB.size hs,hS,qA.nil r M,ai hB hb⟩;clear hB hb hS hs KT KM KP;go_wp2_with fail
 refine az (KL.out _ hH.Xm) fun v3 hb=>?_;replace hH:=hH.below hb;clear hb;go_wp2_with fail
 go_loopw [18] (fun u wr=>∃k:Nat,k<=n/\u=i_ k/\oQ w tq r M s wr (pw r M V k)) (fun u _=>n-(intOf u).toNat)
 case atStart=>exact⟨0,bB _,rfl,hH⟩
 case round=>
  clear hH KL;obtain⟨k,hk,rfl,hH⟩:=hrel;rename World=>wq
  by_cases hlt:k<n
  ·obtain⟨b,hb⟩:∃b,V (k:Int)=b:=⟨_,rfl⟩;have hV:=KV.out _ (k:Int) hH.Xm;rw[hb]at hV;have HV:=h_ hV;have HB:=h_ hb;clear hb hV;go_wp2_with fail
   refine HV.out.mono ?_;rintro e w5 ⟨rfl,hb⟩;replace hH:=hH.below hb;clear hb HV;cases b
   ·(go_wp2_with fail);go_roundw
    case rel=>exact⟨k+1,by omega,by go_num,by unfold pw;rw[ah (by rw[HB.out];simp)];exact hH⟩
    case measure=>simp[intOf];omega
   ·obtain⟨z,hz⟩:∃z,z=((lS r M (pw r M V k) (k:Int)).length:Int)-((pw r M V k).length:Int):=⟨_,rfl⟩;have HZ:=h_ hz;clear hz;(go_wp2_with fail);have hb:Bl w5 (w5.alloc (.cells #[i_ k] 3)):=cu;have hA:=Has.new (w:=w5) #[i_ k] 3;have hP:=hH.put KQ HM.out HZ.out hb (au _) hA;generalize w5.alloc (.cells #[i_ k] 3)=w6 at*;clear hb hA HZ;refine hP.mono ?_;rintro e w7 ⟨rfl,hC⟩;clear hH hP;(go_wp2_with fail);go_roundw
    case rel=>exact⟨k+1,by omega,by go_num,by unfold pw;rw[aj HB.out];exact hC⟩
    case measure=>simp[intOf];omega
  ·obtain rfl:k=n:=by omega
   obtain⟨b,hb⟩:∃b,V tip=b:=⟨_,rfl⟩;have hV:=KV.out _ tip hH.Xm;rw[hb]at hV;have HV:=h_ hV;have HB:=h_ hb;clear hb hV;go_wp2_with fail
   refine HV.out.mono ?_;rintro e w5 ⟨rfl,hb⟩;replace hH:=hH.below hb;clear hb HV;cases b
   ·have hA:=hH.all HM.out;have e0:oU r M V k tip=pw r M V k:=(by unfold oU;rw[ah (by rw[HB.out];simp)]);rw[<-e0]at hA;have HA:=h_ hA;clear hH hA e0;(go_wp2_with fail);refine HA.out.mono ?_;rintro e w6 ⟨v,rfl,hv,hb⟩;have HR:=h_ hv;have HB2:=h_ hb;clear hv hb HA;(go_wp2_with fail);go_ret;exact⟨v,rfl,HR.out,HB2.out⟩
   ·obtain⟨z,hz⟩:=hH.trim KQ HM.out tip;have HZ:=h_ hz;clear hz hH;(go_wp2_with fail);refine HZ.out.mono ?_;rintro e w6 ⟨rfl,hH⟩;have hA:=hH.all HM.out;have e0:oU r M V k tip=(pw r M V k).take (oO r M (pw r M V k) tip):=(by unfold oU;rw[aj HB.out]);rw[<-e0]at hA;have HA:=h_ hA;clear hH hA e0 HZ;(go_wp2_with fail);refine HA.out.mono ?_;rintro e w7 ⟨v,rfl,hv,hb⟩;have HR:=h_ hv;have HB2:=h_ hb;clear hv hb HA;(go_wp2_with fail);go_ret;exact⟨v,rfl,HR.out,HB2.out⟩
theorem vZ(r:Ru)(M:List av)(V:Int->Bool):∀k,k<=M.length->qA r M (pw r M V k)/\∀y,y∈pw r M V k↔y<k/\V (y:Int)=true
 | 0,_=>⟨qA.nil r M,fun y=>⟨fun h=>(by simp[pw]at h),fun h=>absurd h.1 (Nat.not_lt_zero _)⟩⟩
 | k+1,hk=>by
  obtain⟨h1,h2⟩:=vZ r M V k (by omega);unfold pw;by_cases hv:V (k:Int)=true;rw[aj hv];refine⟨Dg h1 _,fun y=>?_⟩;rw[L7,h2];constructor;rintro(h|⟨h,_⟩);exact⟨by omega,h.2⟩;obtain rfl:y=k:=(by omega);exact⟨by omega,hv⟩;rintro⟨h,h3⟩;by_cases e:y=k;exact .inr ⟨by rw[e],by omega⟩;exact .inl ⟨by omega,h3⟩;rw[ah hv];refine⟨h1,fun y=>?_⟩;rw[h2];constructor;rintro⟨h,h3⟩;exact⟨by omega,h3⟩;rintro⟨h,h3⟩;refine⟨?_,h3⟩;by_cases e:y=k;rw[e]at h3;exact absurd h3 hv;omega
def IP(r:Ru)(M:List av)(V:Int->Bool)(tip y:Nat):Bool:=V (y:Int)&&!(V (tip:Int)&&Hv r M tip y)
variable{r:Ru}{M Mt Mr:List av}{V:Int->Bool}{tip bb cb mr bt mb mg bm rb:Nat}
theorem vM(ht:tip<M.length):kK (Hv r M) (oU r M V M.length tip)/\∀y,y∈oU r M V M.length tip↔y<M.length/\IP r M V tip y=true:=by
 obtain⟨h1,h2⟩:=vZ r M V M.length (au _);unfold oU IP;cases hv:V (tip:Int)with
 | false=>
  rw[ah (by simp)];refine⟨h1.jA,fun y=>?_⟩;rw[h2];simp
 | true=>
  rw[aj rfl]
  have e:oO r M (pw r M V M.length) (tip:Int)=Tp.ig (Hv r M) (pw r M V M.length) tip:=by
   unfold oO;rw[aj (by omega),bU]
  rw[e,<-Tp.MI (ir r M) h1.jA];refine⟨h1.jA.sub List.filter_sublist,fun y=>?_⟩;rw[List.mem_filter,h2];simp[and_assoc]
theorem yF(ht:tip<M.length):oU r M V M.length tip=Tp.jA (Hv r M) (Tp.marked M.length (IP r M V tip)):=by obtain⟨h1,h2⟩:=vM (V:=V) (r:=r) ht;exact(Tp.Gm (ir r M) (Tp.Te _ _) h1 fun x=>by rw[h2,Tp.OA]).symm
variable{x:pd}{Sp Sr:Mk.St}{La l:List Int}
theorem Iq(h:bF w0 w r bb cb mr bt mb mg bm rb x Mt Mr Sp Sr tip La)(hg:Gd r Mt Sp):aU 24 #[af cb] w fun e w'=>∃v,e=.returned v/\uu w w' v (zs (oU r Mt (aP Mt Sp) Mt.length tip))/\Bl w w':=by have Wm:=hg.2.1;refine Mg (w:=w) (bs cb) (bs bt) (bs mb) tip Mt.length r Mt rfl (by omega) (aP Mt Sp) (C8 h) (vt h) (h_ fun w' hb=>pr (h.below hb).c2) (h_ fun w' hb=>?_) (h_ fun w' z hb=>((h.below hb).rd hg.1 (ax Wm (by decide))).valid z) (h_ fun w' hb=>?_);obtain⟨F,ls,h1,_⟩:=(h.below hb).tr;exact CE h1;obtain⟨F,ls,h1,_⟩:=h.tr;exact⟨F,.inl ⟨bt,ls,rfl,h1.below hb⟩,h1.1⟩
theorem GY(h:bF w0 w r bb cb mr bt mb mg bm rb x Mt Mr Sp Sr tip La)(hg:Gd r Mt Sp):aU 24 #[af cb] w fun e w'=>∃v,e=.returned v/\kT w' v (zs (oU r Mt (aP Mt Sp) Mt.length tip))/\Bl w w':=(Iq h hg).mono fun _ _ ⟨v,h1,h2,h3⟩=>⟨v,h1,kT.of h2.1 rfl,h3⟩
theorem t_(ht:tip<M.length):(zs (oU r M V M.length tip)).length<=M.length:=by obtain⟨h1,h2⟩:=vM (V:=V) (r:=r) ht;rw[kr];exact FQ (h1.nodup (ir r M)) fun x hx=>((h2 x).1 hx).1
theorem uu.on{w1 w2:World}{v:Value}(h:uu w w1 v l)(hb:Bl w1 w2):uu w w2 v l:=⟨aF h.1 (Kp.of (F:=fun _=>False) hb) fun _ _ hf=>hf,h.2⟩
theorem kT.made{g c:Nat}{T:List Value}(h:Has w g (l.map (Value.int .i64)++T).toArray 3):kT w (.slice (bs g) l.length c) l:=by refine⟨_,c,rfl,fun _=>⟨g,rfl,fun w' hb k z hk=>(hb.cell (p:=⟨g,k,none⟩) h.lt).trans ?_⟩⟩;rw[Has.cell h k,dg,dm (by rw[dS];exact(bk.1 hk).1),eK,hk];rfl
end An
namespace An
open Mem Sc NN.VI
open Ar (av Ru aN Ok dB)
theorem Q'(w:World):(Instr.buildSlice 49 0 #[]).run Tryz.prog w=.ok (.slice (some ⟨w.heap.size,0,none⟩) 0 0) (w.alloc (.cells #[] 3)):=by kernel_rfl
theorem MX(g n c k:Nat)(hk:k<=n)(w:World):(Instr.sliceAt 49 (.slice (bs g) n c) (some (i_ k)) none none).run Tryz.prog w=.ok (.slice (some (if c=k then⟨g,0,none⟩ else⟨g,k,none⟩)) (n-k) (c-k)) w:=by
 have h1:¬n<k:=by omega
 go_simp
 split<;>rfl
section
variable{ρ:Operand->Value}{o:Oper}{w:World}
theorem US(ho:o.op=.buildSlice 49 0 #[]):(execOp ρ o).run Tryz.prog w=.ok (.value (.slice (some ⟨w.heap.size,0,none⟩) 0 0)) (w.alloc (.cells #[] 3)):=by unfold execOp;simp only[ho,aB,im,cx];rw[Q' w];rfl
theorem Og{s h:Operand}{p p':Option Addr}{n c m d k:Nat}(ho:o.op=.slice 49 s (some h) none none)(hs:ρ s=.slice p n c)(hh:ρ h=i_ k)(hr:(Instr.sliceAt 49 (.slice p n c) (some (i_ k)) none none).run Tryz.prog w=.ok (.slice p' m d) w):(execOp ρ o).run Tryz.prog w=.ok (.value (.slice p' m d)) w:=by unfold execOp;simp only[ho,hs,hh,gi,Option.map_none,aB,cr,hr,aM]
end
def iU(B:Nat)(w:World)(v:Value)(l:List Int):Prop:=w.ownsRow B 3 1 v l.length (l.map (Value.int .i64))
variable{B c n q k:Nat}{w w':World}{v:Value}{l T D:List Int}
theorem iU.below(h:iU B w v l)(hb:Bl w w'):iU B w' v l:=aF h (Kp.of (F:=fun _=>False) hb) fun _ _ hf=>hf
theorem iU.slice(h:iU B w v l):∃p c,v=.slice p l.length c:=Fi h
theorem iU.row(h:iU B w v l):jG w v l/\∀k,v.ownBlock=some k->B<=k:=⟨⟨h.1,h.2.imp id fun⟨g,c,cur,a1,_,a3⟩=>⟨g,c,cur,a1,bB _,a3⟩⟩,fun k hk=>(World.ownsRow.lt h k hk).1⟩
def Vb(V:World)(x:Int)(T D:List Int)(fl:Nat->Bool)(g:Nat×Nat×Value×Value×Value)(w':World):Prop:=
 Bl V w'/\(fl 0=true->fl 4=false->V.heap.size<=g.1/\Has w' g.1 #[] 3)/\(fl 6=true->fl 7=false->V.heap.size<=g.2.1/\Has w' g.2.1 #[i_ x] 3)/\
 (fl 4=true->fl 7=false->iU V.heap.size w' g.2.2.1 T)/\(fl 7=true->fl 11=false->iU V.heap.size w' g.2.2.2.1 (T++[x]))/\(fl 11=true->iU V.heap.size w' g.2.2.2.2 (T++[x]++D))
variable{ad:Option Addr}
theorem OH{l:List Nat}(h:iU B w (.slice ad l.length c) (zs l))(i:Nat)(hi:i<l.length):∃g,ad=some ⟨g,0,none⟩/\w.cell? ⟨g,i,none⟩=some (i_ ((l[i]:Nat):Int)):=by
 obtain⟨a,c',e,hC⟩:=ui h.row.1;have e1:ad=a:=by injection e
 subst e1;obtain⟨g,h1,h2⟩:=hC i (by rw[kr];exact hi);exact⟨g,h1,by rw[h2,n8]⟩
theorem QC{H:Nat->Nat->Bool}{V0:Nat->Bool}{y:Nat}(h:y∈Tp.jA H (Tp.marked n V0)):y<n:=by
 have:∀(ms out:List Nat),y∈ms.foldl (Tp.ins H) out->y∈ms\/y∈out:=by
  intro ms;induction ms with
  | nil=>exact fun out h=>.inr h
  | cons m ms ih=>
   intro out h;rcases ih _ h with h|h
   exact .inl (iL _ h)
   ·rcases Tp.wS.1 h with rfl|h
    exact .inl (by simp);exact .inr h
 rcases this _ _ h with h|h
 exact(Tp.OA.1 h).1;simp at h
theorem JP(H:Nat->Nat->Bool)(ms:List Nat):(Tp.jA H ms).length=ms.length:=by
 have:∀(ms out:List Nat),(ms.foldl (Tp.ins H) out).length=ms.length+out.length:=by
  intro ms;induction ms with
  | nil=>intro out;simp
  | cons m ms ih=>intro out;rw[jZ,ih,Tp.R8,fP];omega
 have h:=this ms [];simpa[Tp.jA]using h
theorem RJ(n:Nat)(V0:Nat->Bool):(Tp.marked n V0).length<=n:=by have:=List.length_filter_le V0 (List.range n);rwa[List.length_range]at this
theorem Cc(h:iU B w (.slice ad q c) (T++D))(hq:(T++D).length=q):(ad=none/\T=[]/\D=[]/\c=0/\q=0)\/∃g,ad=some ⟨g,0,none⟩/\g<w.heap.size/\q<=c/\∀i (hi:i<(T++D).length),w.cell? ⟨g,i,none⟩=some (i_ (T++D)[i]):=by
 rcases xd h.row.1 with⟨e,hl⟩|⟨g,c',S,e,hg,hc,hm⟩
 ·injection e with e1 e2 e3
  rw[List.append_eq_nil_iff]at hl;exact .inl ⟨e1,hl.1,hl.2,e3,e2⟩
 ·injection e with e1 e2 e3
  subst e1 e3;refine .inr ⟨g,rfl,hg.lt,by omega,fun i hi=>?_⟩;rw[hg.cell i,dg,dm (by simpa using hi),eK,aQ hi];rfl
theorem Ak(h:iU B w (.slice ad q c) (T++D))(hT:T.length=k)(hq:(T++D).length=q)(hk:k<=q):∃(p2:Option Addr)(m2 d2:Nat),m2=q-k/\(∀w':World,(Instr.sliceAt 49 (.slice ad q c) (some (i_ k)) none none).run Tryz.prog w'=.ok (.slice p2 m2 d2) w')/\((ad=none->k=0/\c=0)/\(p2=none->m2=0/\d2=0))/\MM.gX w 0 w.heap.size ad T/\MM.gX w 0 w.heap.size p2 D:=by
 rcases Cc h hq with⟨rfl,rfl,rfl,rfl,rfl⟩|⟨g,rfl,hg,hqc,hc⟩
 ·obtain rfl:k=0:=by simpa using hT.symm
  exact⟨none,0,0,rfl,fun w'=>by kernel_rfl,⟨fun _=>⟨rfl,rfl⟩,fun _=>⟨rfl,rfl⟩⟩,fun h0=>by simp at h0,fun h0=>by simp at h0⟩
 rw[aT]at hq;refine⟨_,_,_,rfl,fun w'=>MX g q c k hk w',⟨fun e=>(by cases e),fun e=>(by cases e)⟩,fun h0=>⟨g,0,rfl,bB _,hg,fun i hi=>?_⟩,fun h0=>⟨g,k,?_,bB _,hg,fun i hi=>?_⟩⟩;rw[cy,hc i (by rw[aT];omega),List.getElem_append_left hi];simp[List.getD_eq_getElem?_getD,hi];rw[ah (by omega)];rw[hc (k+i) (by rw[aT];omega),List.getElem_append_right (by omega)];simp[List.getD_eq_getElem?_getD,hi,hT]
theorem OC(h:iU B w (.slice ad q c) (T++D))(hq:(T++D).length=q)(hk:k<=q)(w':World):(Instr.sliceAt 49 (.slice ad q c) none (some (i_ k)) none).run Tryz.prog w'=.ok (.slice ad k c) w':=by
 rcases Cc h hq with⟨rfl,rfl,rfl,rfl,rfl⟩|⟨g,rfl,hg,hqc,hc⟩
 exact xX none 0 0 k hk (au _) (fun _=>⟨rfl,rfl⟩) (fun _ h=>by cases h) w';exact xX _ q c k hk hqc (fun h=>by cases h) (fun y h=>⟨g,(Option.some.inj h).symm⟩) w'
theorem Ow(bm bi n cL:Nat)(aL:Option Addr)(H:Nat->Nat->Bool)(V0:Nat->Bool)(nm:Nat)(hnm:n<=nm)(hn:n<=100)(w:World)(HL:Hid (∀w',Below w.heap.size w w'->w'.cell? ⟨bm,83,none⟩=some (.slice aL n cL)))(HI:Hid (∀w' i,Below w.heap.size w w'->i<n->w'.cell? ⟨bi,i,none⟩=some (.bool (V0 i))))(KH:Hid (∀w' i j,Below w.heap.size w w'->i<n->j<n->ar 62 #[af bm,i_ i,i_ j] w' (.bool (H i j)))):aU 63 #[af bm,.slice (bs bi) nm nm] w fun e w'=>∃v,e=.returned v/\jG w' v (zs (Tp.jA H (Tp.marked n V0)))/\(∀g,v.ownBlock=some g->w.heap.size<=g)/\Below w.heap.size w w':=by
 have hB:=aA w.heap.size w;have XJ:=HL.out w hB;go_enter Tryz.func63,Tryz.ntmps63;go_wp2_with fail
 clear XJ;go_loopw [5,13] (fun v u wr=>∃(i:Nat)(l:List Nat)(ad:Option Addr)(c:Nat),i<=n/\u=i_ i/\v=.slice ad l.length c/\Hid (l=Tp.jA H (Tp.marked i V0))/\iU w.heap.size wr (.slice ad l.length c) (zs l)/\Below w.heap.size w wr) (fun _ u _=>n-(intOf u).toNat)
 case atStart=>exact⟨0,[],none,0,by omega,rfl,rfl,h_ rfl,lf _ _ _ _,hB⟩
 case round=>
  clear hB;obtain⟨i,l,ad,c,hi,rfl,rfl,Z8,hO,hB⟩:=hrel;by_cases hlt:i<n
  ·have ci:=HI.out wr i hB (by omega);have Wq:Hid (V0 i=true->Tp.jA H (Tp.marked (i+1) V0)=Tp.ins H l i):=h_ fun e=>by rw[Tp.NY,aj e,Tp.J3,Z8.out]
   have HS0:Hid (V0 i=false->Tp.jA H (Tp.marked (i+1) V0)=l):=h_ fun e=>by rw[Tp.NY,ah (by rw[e];simp),dW,Z8.out]
   have al0:i<nm:=by omega
   have af3:Hid (∀y∈l,y<n):=h_ fun y hy=>by
    rw[Z8.out]at hy;have:=QC hy;omega
   have HQ9:Hid (l.length<=100):=h_ (by rw[Z8.out];have:=JP H (Tp.marked i V0);have:=RJ i V0;omega);generalize V0 i=g at*;have dd:decide (nm<=i)=false:=aE (by omega);cases g
   case false=>
    clear Wq af3 HQ9;(go_wp2_with fail);go_roundw
    case rel=>exact⟨i+1,l,ad,c,by omega,by go_num,rfl,h_ (HS0.out (by simp)).symm,hO,hB⟩
    case measure=>simp[intOf];omega
   case true=>
    clear HS0;obtain⟨q,hq⟩:∃q,q=l.length:=⟨_,rfl⟩;have hq9:q<=100:=(by rw[hq];exact HQ9.out);rw[<-hq];have HQE:=h_ hq;have HO:=h_ hO;have Yg:=h_ hB;obtain⟨ks,hks⟩:∃ks,ks=Tp.spot H l i:=⟨_,rfl⟩;have hkq:ks<=q:=(by rw[hks,hq];exact Tp.Ap _ _ _);have HKS:=h_ hks;have hbr:=aA wr.heap.size wr;rename World=>vr
    clear hq hks hO hB Z8 HQ9;(go_wp2_with fail);go_loopw [7] (fun u wr=>∃k:Nat,k<=ks/\u=i_ k/\Below vr.heap.size vr wr) (fun u _=>ks-(intOf u).toNat)
    case atStart=>exact⟨0,by omega,rfl,hbr⟩
    case round=>
     clear hbr ci;obtain⟨k,hk,rfl,hb⟩:=hrel;have hB2:=ai Yg.out hb;by_cases hlk:k<q
     case' pos=>
      have hkl:k<l.length:=(by rw[<-HQE.out];exact hlk);obtain⟨gq,e1,hc⟩:=OH HO.out k hkl;subst e1;have c1:=(hb.cell (block_lt_of_cell hc)).trans hc;have KHk:=h_ (KH.out wr l[k] i hB2 (af3.out _ (ij hkl)) hlt)
      have HT1:Hid (H l[k] i=true->k+1<=ks):=h_ fun e=>by
       rcases fQ k ks with hh|hh
       exact hh;exfalso;obtain rfl:k=ks:=(by omega);have:=Tp.yt (H:=H) (x:=i) (l:=l) (by rw[<-HKS.out];exact hkl);simp only[<-HKS.out]at this;rw[this]at e;cases e
      have HT0:Hid (H l[k] i=false->k=ks):=h_ fun e=>by
       rcases fQ k ks with hh|hh
       have:=Tp.AH (H:=H) (x:=i) hkl (by rw[<-HKS.out];exact hh);rw[this]at e;cases e;omega
      generalize H l[k] i=gh at*;generalize l[k]=y at*;clear hc hkl;(go_wp2_with fail);refine KHk.out.mono ?_;rintro e v8 ⟨rfl,Wv⟩;replace hb:=ai hb Wv;clear Wv KHk c1 hB2;cases gh
      case true=>
       (go_wp2_with fail);go_roundw
       case rel=>exact⟨k+1,HT1.out (by simp),by go_num,hb⟩
       case measure=>have:=HT1.out (by simp);simp[intOf];omega
      case' false=>
       obtain rfl:k=ks:=HT0.out (by simp);clear HT1 HT0;generalize(some ⟨gq,0,none⟩:Option Addr)=ad at*;rename World=>v9
     case' neg=>
      obtain rfl:k=ks:=(by omega);have hdq:decide (k<q)=false:=aE hlk;rename World=>v9
     all_goals(
      (go_upto_region 9 with fail);have hB5:=ai Yg.out hb;have YH:iU w.heap.size v9 (.slice ad q c) (zs l):=(by have:=HO.out.below hb;rwa[<-HQE.out]at this);obtain⟨V,hV⟩:∃V,V=v9:=⟨_,rfl⟩;rw[<-hV]at hb hB5 YH|-;clear hV;obtain⟨T,hT0⟩:∃T,T=zs (l.take k):=⟨_,rfl⟩;obtain⟨D,hD0⟩:∃D,D=zs (l.drop k):=⟨_,rfl⟩;have hTD:zs l=T++D:=(by rw[hT0,hD0,<-pB,iN]);have Yo:Hid (T.length=k):=h_ (by rw[hT0,kr,eM,<-HQE.out];omega);have Z9:Hid (D.length=q-k):=h_ (by rw[hD0,kr,gD,<-HQE.out]);obtain⟨x,hx⟩:∃x:Int,x=(i:Int):=⟨_,rfl⟩
      have XM:Hid (T++[x]++D=zs (Tp.ins H l i)):=h_ (by
       rw[hT0,hD0,hx];unfold Tp.ins;rw[pB,<-HKS.out,iS];rfl)
      rw[hTD]at YH;obtain⟨p2,m2,d2,hm2,hKD,hnil,hLT,hLD⟩:=Ak YH Yo.out (by rw[aT,Yo.out,Z9.out];omega) hkq;replace Z9:Hid (D.length=m2):=h_ (by rw[Z9.out,hm2]);have KT:=OC YH (by rw[aT,Yo.out,Z9.out];omega) hkq;have HT:=fun w' hb=>MM.gX.below hLT (w':=w') hb (au _)
      have HD:=fun w' hb=>MM.gX.below hLD (w':=w') hb (au _)
      rw[<-hx];have YE:m2<=100:=(by omega);replace YH:=(⟨XM,hB5,YE⟩:Hid _/\Below w.heap.size w V/\m2<=100);clear hT0 hD0 hTD hLT hLD HO
      refine lZ (Vb V x T D) [0,4,6,7,11] [0,3,4,6,7,10,11] (fun g=>[.slice (some ⟨g.1,0,none⟩) 0 0,.slice ad q c,i_ k,.slice ad k c,g.2.2.1,i_ x,.slice (some ⟨g.2.1,0,none⟩) 1 1,g.2.2.2.1,.slice ad q c,i_ k,.slice p2 m2 d2,g.2.2.2.2,g.2.2.2.2]) (0,0,undef,undef,undef) ⟨cg.drew,fun h=>(by cases h),fun h=>(by cases h),fun h=>(by cases h),fun h=>(by cases h),fun h=>by cases h⟩
       ⟨fun fl g w' f hC=>?_,fun fl g w' f hC=>.val (Gw rfl rfl rfl (KT w')) hC,fun fl g w' f hC=>?_,fun fl g w' f hC=>?_,fun fl g w' f hC=>?_,fun fl g w' f hC=>.val (Og rfl rfl rfl (hKD w')) hC,fun fl g w' f hC=>?_,trivial⟩ ?_
      ·have h7:=f.no 7 (by kernel_rfl);have h4:=f.no 4 (by kernel_rfl);have h11:=f.no 11 (by kernel_rfl);obtain⟨q1,q2,q3,q4,q5,q6⟩:=hC;have hb:=(aA w'.heap.size w').alloc (au _) (.cells #[] 3);exact .new (w'.heap.size,g.2) [0] rfl (US rfl) ⟨ai q1 hb,fun _ _=>⟨q1.size,Has.new _ _⟩,fun h1 h2=>⟨(q3 h1 h2).1,dz hb (q3 h1 h2).2 (q3 h1 h2).2.lt⟩,fun h=>ff h4 h,fun h=>ff h7 h,fun h=>ff h11 h⟩
      ·have h0:=f.yes 0 (by kernel_rfl);have h7:=f.no 7 (by kernel_rfl);have h11:=f.no 11 (by kernel_rfl);have h4:=f.no 4 (by kernel_rfl);obtain⟨q1,q2,q3,q4,q5,q6⟩:=hC;obtain⟨r1,r2⟩:=q2 h0 h4;obtain⟨v',w2,g1,g2,g3⟩:=uv (w:=w') 42 45 (by decide) V.heap.size _ 0 [] ⟨rfl,.inr ⟨g.1,0,#[],rfl,r1,r2,au _,by decide,rfl,rfl⟩⟩ ad k c T (fun e=>hnil.1 e) Yo.out (HT w' q1) (by omega) q1.size;refine .new (g.1,g.2.1,v',g.2.2.2) [4] rfl (g1 _ _ rfl rfl rfl rfl) ⟨q1.grown g3 q1.size (fun j hj=>by cases hj;exact r1),fun _ h=>(by cases h),fun h1 h2=>⟨(q3 h1 h2).1,(g3.block g.2.1 (q3 h1 h2).2.lt fun e=>?_).trans (q3 h1 h2).2⟩,fun _ _=>(by unfold iU;rw[Yo.out];simpa using g2),fun h=>ff h7 h,fun h=>ff h11 h⟩;have e2:g.2.1=g.1:=Option.some.inj e;have:=r2.out.symm.trans (e2▸(q3 h1 h2).2.out);simp at this
      ·have h7:=f.no 7 (by kernel_rfl);have h11:=f.no 11 (by kernel_rfl);obtain⟨q1,q2,q3,q4,q5,q6⟩:=hC;have hb:=(aA w'.heap.size w').alloc (au _) (.cells #[i_ x] 3);exact .new (g.1,w'.heap.size,g.2.2) [6] rfl (ny rfl rfl (by kernel_rfl)) ⟨ai q1 hb,fun h1 h2=>⟨(q2 h1 h2).1,dz hb (q2 h1 h2).2 (q2 h1 h2).2.lt⟩,fun _ _=>⟨q1.size,Has.new _ _⟩,fun h1 h2=>(q4 h1 h2).below hb,fun h=>ff h7 h,fun h=>ff h11 h⟩
      ·have h4:=f.yes 4 (by kernel_rfl);have h6:=f.yes 6 (by kernel_rfl);have h7:=f.no 7 (by kernel_rfl);have h11:=f.no 11 (by kernel_rfl);obtain⟨q1,q2,q3,q4,q5,q6⟩:=hC;have r3:=(q3 h6 h7).2;obtain⟨v',w2,g1,g2,g3⟩:=uv (w:=w') 46 48 (by decide) V.heap.size _ T.length T (q4 h4 h7) (some ⟨g.2.1,0,none⟩) 1 1 [x] (fun e=>by cases e) rfl (yj fun j z hj=>by rw[Has.cell r3 j];match j,hj with|0,hj=>cases hj;rfl) (by rw[Yo.out];omega) q1.size;exact .new (g.1,g.2.1,g.2.2.1,v',g.2.2.2.2) [7] rfl (g1 _ _ rfl rfl rfl rfl) ⟨q1.grown g3 q1.size (fun j hj=>((q4 h4 h7).lt j hj).1),fun _ h=>ff h h4,fun _ h=>(by cases h),fun _ h=>(by cases h),fun _ _=>(by unfold iU;rw[aT];exact g2),fun h=>ff h11 h⟩
      ·have h4:=f.yes 4 (by kernel_rfl);have h7:=f.yes 7 (by kernel_rfl);have h11:=f.no 11 (by kernel_rfl);obtain⟨q1,q2,q3,q4,q5,q6⟩:=hC;obtain⟨v',w2,g1,g2,g3⟩:=uv (w:=w') 49 52 (by decide) V.heap.size _ (T++[x]).length (T++[x]) (q5 h7 h11) p2 m2 d2 D (fun e=>hnil.2 e) Z9.out (HD w' q1) (by rw[aT,Yo.out];simp;omega) q1.size;have e:(T++[x]++D).length=(T++[x]).length+m2:=(by rw[aT,Z9.out]);exact .new (g.1,g.2.1,g.2.2.1,g.2.2.2.1,v') [11,12] rfl (g1 _ _ rfl rfl rfl rfl) ⟨q1.grown g3 q1.size (fun j hj=>((q5 h7 h11).lt j hj).1),fun _ h=>ff h h4,fun _ h=>ff h h7,fun _ h=>ff h h7,fun _ h=>(by cases h),fun _=>(by unfold iU;rw[e];exact g2)⟩
      rintro g v10 ⟨VE,_,_,_,_,Yn⟩;replace Yn:=Yn rfl;rw[YH.1.out]at Yn;have af4:iU w.heap.size v10 g.2.2.2.2 (zs (Tp.ins H l i)):=⟨Yn.1,Yn.2.imp id fun⟨g,c,cur,a1,a2,a3⟩=>⟨g,c,cur,a1,ax YH.2.1.size a2,a3⟩⟩;have W9:=ai YH.2.1 VE;simp only[dD,aZ,bg,de,dh];generalize g.2.2.2.2=vR at*;obtain⟨p5,c5,rfl⟩:=af4.slice;rw[kr]at*;clear VE Yn YH KT hKD hnil HT HD;(go_wp2_with fail);go_roundw
      case rel=>exact⟨i+1,Tp.ins H l i,p5,c5,by omega,by go_num,rfl,h_ (Wq.out (by simp)).symm,af4,W9⟩
      case measure=>simp[intOf];omega)
  ·obtain rfl:i=n:=by omega
   have HR:Hid (jG wr (.slice ad l.length c) (zs (Tp.jA H (Tp.marked i V0)))/\∀g,(Value.slice ad l.length c).ownBlock=some g->w.heap.size<=g):=h_ (by rw[<-Z8.out];exact hO.row);clear hO;go_wp2_with fail
   go_ret;exact⟨_,rfl,HR.out.1,HR.out.2,hB⟩
open Ar (dV gS fR Row Up)
open Mk (iH jS ik cZ fX pb cG aP verdict word)
variable{cs:Array Value}
theorem bJ{g:Nat}{T:TypeId}(h:Has w g cs T)(hb:Bl w w'):Has w' g cs T:=(si hb).has h fun h=>h
theorem TX:(Tryz.prog.info? 4).map (fun i=>(i.zero,i.size,i.bytes))=some (some (.bool false),1,1):=by kernel_rfl
theorem SP(n:Nat)(hn:n<=1000)(w:World):(Instr.makeSlice 93 (i_ n) (i_ n)).run Tryz.prog w=.ok (.slice (some ⟨w.heap.size,0,none⟩) n n) (w.alloc (.cells (madeCells #[.bool false] n) 4)):=
 run_make_row' 93 4 (.bool false) 1 Tryz.underlying93 TX rfl .i64 .i64 n (by omega) (by omega) w
theorem He(n:Nat):(madeCells #[.bool false] n).size=n:=by rw[<-Array.length_toList,toList_madeCells_one,List.length_replicate]
theorem yf(w:World)(g j n c:Nat)(hj:j<n):(Instr.indexAt 93 (.slice (bs g) n c) (i_ j)).run Tryz.prog w=.ok (.pointer (some ⟨g,j,none⟩)) w:=by go_simp
theorem Bz{C:Nat->Bool}{b:Bool}(h:cs.size=n/\k<n/\∀i,i<k->cs[i]?=some (.bool (C i)))(hb:C k=b):(cs.setIfInBounds k (.bool b)).size=n/\∀i,i<k+1->(cs.setIfInBounds k (.bool b))[i]?=some (.bool (C i)):=by refine⟨by rw[oy];exact h.1,fun i hi=>?_⟩;rw[ia];by_cases e:k=i;subst e;rw[aj rfl,aj (by omega),hb];rw[ah e];exact h.2.2 i (by omega)
theorem Nt{w0:World}{r:Ru}{bb cb mr bt mb mg bm rb:Nat}{x:pd}{Mt M:List av}{Sp S:Mk.St}{tp t:Nat}{La:List Int}(h:bF w0 w r bb cb mr bt mb mg bm rb x Mt M Sp S tp La)(hg:Gd r M S)(hL:Row M (t:Int) La):aU 28 #[af mr] w fun e w'=>∃v,e=.returned v/\kT w' v (zs (oU r M (aP M S) M.length t))/\Bl w w':=by
 have htl:t<M.length:=by
  obtain⟨d,_,hd,_,_⟩:=Ch.gY hL;exact(bk.1 hd).1
 have e0:=yF (V:=aP M S) (r:=r) htl;obtain⟨C,hCd⟩:∃C,C=IP r M (aP M S) t:=⟨_,rfl⟩;rw[<-hCd]at e0;have HCD:=h_ hCd;have HE:=h_ e0
 have KV:Hid (∀w' (z:Int) {b:Bool},aP M S z=b->Bl w w'->ar 30 #[af rb,af bm,i_ z] w' (.bool b)):=h_ fun w' z b hz hb=>by
  subst hz;obtain⟨Fm,hf⟩:=(h.below hb).rf;exact Ov hf (h.below hb).rk hg.1 (ax hg.2.1 (by decide)) z
 have KT:bG w 45 #[af mr] (i_ t):=h_ fun w' hb=>FW (h.below hb) hg hL
 have KHh:Hid (∀w' (i j:Nat) {b:Bool},i<M.length->j<M.length->Hv r M i j=b->Bl w w'->ar 62 #[af bm,i_ i,i_ j] w' (.bool b)):=h_ fun w' i j b hi hj hz hb=>by
  subst hz;obtain⟨Fm,hf⟩:=(h.below hb).rf;exact O4 hf hi hj
 have Wm:=hg.2.1;obtain⟨X0,hX0⟩:=h.core;obtain⟨aL,cL,hLs⟩:=hX0.list;have HLs:=h_ hLs;have c2:=h.m0;have XJ:=hLs _ cg;obtain⟨n,hn⟩:∃n,n=M.length:=⟨_,rfl⟩;rw[<-hn]at XJ Wm;have HN:=h_ hn;have hmk:=fun w=>SP n (by omega) w
 clear hCd e0 hX0 hLs hn;have hB:=aA w.heap.size w;go_enter Tryz.func28,Tryz.ntmps28;go_upto_region 2 with fail
 have hb1:Bl w (w.alloc (.cells (madeCells #[.bool false] n) 4)):=hB.alloc (au _) _;have hA:=Has.new (w:=w) (madeCells #[.bool false] n) 4;obtain⟨g,hgw⟩:∃g,g=w.heap.size:=⟨_,rfl⟩;have HGw:Hid (w.heap.size<=g):=h_ (jd hgw.symm);rw[<-hgw]at hA|-;generalize World.alloc w _=w1 at*;clear c2 XJ hmk hgw hB;go_wp2_with fail
 go_loopw [16] (fun u wr=>∃(k:Nat)(cs:Array Value),k<=n/\u=i_ k/\Bl w wr/\Has wr g cs 4/\Hid (cs.size=n/\∀i,i<k->cs[i]?=some (.bool (C i)))) (fun u _=>n-(intOf u).toNat)
 case atStart=>exact⟨0,_,bB _,rfl,hb1,hA,h_ ⟨He n,fun i hi=>absurd hi (Nat.not_lt_zero _)⟩⟩
 case round=>
  clear hb1 hA;obtain⟨k,cs,hk,rfl,hB,hcs,YI⟩:=hrel;rename World=>wq
  by_cases hlt:k<n
  ·have Yl:Hid (cs.size=n/\k<n/\∀i,i<k->cs[i]?=some (.bool (C i))):=h_ ⟨YI.out.1,hlt,YI.out.2⟩;obtain⟨b1,h1⟩:∃b,aP M S (k:Int)=b:=⟨_,rfl⟩;obtain⟨b2,h2⟩:∃b,aP M S (t:Int)=b:=⟨_,rfl⟩;obtain⟨b3,h3⟩:∃b,Hv r M t k=b:=⟨_,rfl⟩;have XK:Hid (C k=(b1&&!(b2&&b3))):=h_ (by rw[HCD.out];unfold IP;rw[h1,h2,h3]);have HVk:=h_ h1;have HVt:=h_ h2;have KH:=h_ fun w' hb=>KHh.out w' t k htl (by rw[<-HN.out];exact hlt) h3 hb
   clear h1 h2 h3 YI;go_wp2_with fail
   cases b1
   ·replace XK:Hid (C k=false):=XK;refine lZ (fun fl (_:Unit) w'=>Bl w w'/\(fl 37=false->Has w' g cs 4)/\(fl 37=true->Has w' g (cs.setIfInBounds k (.bool false)) 4)) [37] [5,9,11,36,37] (fun _=>[.slice (bs g) n n,i_ k,af mr,af mr,.pointer (some ⟨mr,1,none⟩),af rb,af mr,af mr,af mr,af bm,i_ k,.bool false,.bool false,undef,undef,undef,undef,undef,undef,undef,undef,undef,undef,undef,undef,undef,undef,undef,undef,undef,undef,undef,undef,undef,undef,.bool false,.pointer (some ⟨g,k,none⟩),undef]) () ⟨hB.drew,fun _=>bJ hcs cg.drew,fun q=>by cases q⟩ ⟨fun fl g0 w' f hC=>.val (dy rfl rfl (gL (h.below hC.1).m1)) hC,fun fl g0 w' f hC=>.val (dy rfl rfl (eR (h.below hC.1).m0)) hC,fun fl g0 w' f hC=>?_,fun fl g0 w' f hC=>.val (fY rfl rfl rfl (yf _ _ _ _ _ hlt)) hC,fun fl g0 w' f hC=>?_,trivial⟩ ?_;exact .call ((KV.out _ (k:Int) HVk.out hC.1).mono fun _ _ q=>⟨q.1,ai hC.1 q.2,fun q1=>bJ (hC.2.1 q1) q.2,fun q1=>bJ (hC.2.2 q1) q.2⟩)
    ·have h37:=f.no 37 (by kernel_rfl);have q1:=hC.2.1 h37;refine .store rfl (nu rfl rfl rfl (Bo (Has.free q1 k) (q1.cell k |>.trans (ju (by rw[Yl.out.1];exact hlt))))) ⟨hC.1.setCell HGw.out _,fun q=>(by cases q),fun _=>Has.set q1 _⟩
    rintro _ w9 ⟨W9,_,VS⟩;replace VS:=VS rfl;clear hB hcs;simp only[dD,aZ,bg,de,dh];(go_wp2_with fail);go_roundw
    case rel=>exact⟨k+1,_,by omega,by go_num,W9,VS,h_ (Bz Yl.out XK.out)⟩
    case measure=>simp[intOf];omega
   ·cases b2
    ·replace XK:Hid (C k=true):=XK;refine lZ (fun fl (_:Unit) w'=>Bl w w'/\(fl 37=false->Has w' g cs 4)/\(fl 37=true->Has w' g (cs.setIfInBounds k (.bool true)) 4)) [37] [5,9,11,16,20,22,23,36,37] (fun _=>[.slice (bs g) n n,i_ k,af mr,af mr,.pointer (some ⟨mr,1,none⟩),af rb,af mr,af mr,af mr,af bm,i_ k,.bool true,.bool true,af mr,af mr,.pointer (some ⟨mr,1,none⟩),af rb,af mr,af mr,af mr,af bm,af mr,i_ t,.bool false,.bool false,undef,undef,undef,undef,undef,undef,undef,undef,.bool false,.bool true,.bool true,.pointer (some ⟨g,k,none⟩),undef]) () ⟨hB.drew,fun _=>bJ hcs cg.drew,fun q=>by cases q⟩ ⟨fun fl g0 w' f hC=>.val (dy rfl rfl (gL (h.below hC.1).m1)) hC,fun fl g0 w' f hC=>.val (dy rfl rfl (eR (h.below hC.1).m0)) hC,fun fl g0 w' f hC=>?_,fun fl g0 w' f hC=>.val (dy rfl rfl (gL (h.below hC.1).m1)) hC,fun fl g0 w' f hC=>.val (dy rfl rfl (eR (h.below hC.1).m0)) hC,fun fl g0 w' f hC=>?_,fun fl g0 w' f hC=>?_,fun fl g0 w' f hC=>.val (fY rfl rfl rfl (yf _ _ _ _ _ hlt)) hC,fun fl g0 w' f hC=>?_,trivial⟩ ?_;exact .call ((KV.out _ (k:Int) HVk.out hC.1).mono fun _ _ q=>⟨q.1,ai hC.1 q.2,fun q1=>bJ (hC.2.1 q1) q.2,fun q1=>bJ (hC.2.2 q1) q.2⟩);exact .call ((KT.out _ hC.1).mono fun _ _ q=>⟨q.1,ai hC.1 q.2,fun q1=>bJ (hC.2.1 q1) q.2,fun q1=>bJ (hC.2.2 q1) q.2⟩);exact .call ((KV.out _ (t:Int) HVt.out hC.1).mono fun _ _ q=>⟨q.1,ai hC.1 q.2,fun q1=>bJ (hC.2.1 q1) q.2,fun q1=>bJ (hC.2.2 q1) q.2⟩)
     ·have h37:=f.no 37 (by kernel_rfl);have q1:=hC.2.1 h37;refine .store rfl (nu rfl rfl rfl (Bo (Has.free q1 k) (q1.cell k |>.trans (ju (by rw[Yl.out.1];exact hlt))))) ⟨hC.1.setCell HGw.out _,fun q=>(by cases q),fun _=>Has.set q1 _⟩
     rintro _ w9 ⟨W9,_,VS⟩;replace VS:=VS rfl;clear hB hcs;simp only[dD,aZ,bg,de,dh];(go_wp2_with fail);go_roundw
     case rel=>exact⟨k+1,_,by omega,by go_num,W9,VS,h_ (Bz Yl.out XK.out)⟩
     case measure=>simp[intOf];omega
    ·cases b3
     ·replace XK:Hid (C k=true):=XK;refine lZ (fun fl (_:Unit) w'=>Bl w w'/\(fl 37=false->Has w' g cs 4)/\(fl 37=true->Has w' g (cs.setIfInBounds k (.bool true)) 4)) [37] [5,9,11,16,20,22,23,28,30,32,36,37] (fun _=>[.slice (bs g) n n,i_ k,af mr,af mr,.pointer (some ⟨mr,1,none⟩),af rb,af mr,af mr,af mr,af bm,i_ k,.bool true,.bool true,af mr,af mr,.pointer (some ⟨mr,1,none⟩),af rb,af mr,af mr,af mr,af bm,af mr,i_ t,.bool true,.bool true,af mr,af mr,af mr,af bm,af mr,i_ t,i_ k,.bool false,.bool false,.bool true,.bool true,.pointer (some ⟨g,k,none⟩),undef]) () ⟨hB.drew,fun _=>bJ hcs cg.drew,fun q=>by cases q⟩ ⟨fun fl g0 w' f hC=>.val (dy rfl rfl (gL (h.below hC.1).m1)) hC,fun fl g0 w' f hC=>.val (dy rfl rfl (eR (h.below hC.1).m0)) hC,fun fl g0 w' f hC=>?_,fun fl g0 w' f hC=>.val (dy rfl rfl (gL (h.below hC.1).m1)) hC,fun fl g0 w' f hC=>.val (dy rfl rfl (eR (h.below hC.1).m0)) hC,fun fl g0 w' f hC=>?_,fun fl g0 w' f hC=>?_,fun fl g0 w' f hC=>.val (dy rfl rfl (eR (h.below hC.1).m0)) hC,fun fl g0 w' f hC=>?_,fun fl g0 w' f hC=>?_,fun fl g0 w' f hC=>.val (fY rfl rfl rfl (yf _ _ _ _ _ hlt)) hC,fun fl g0 w' f hC=>?_,trivial⟩ ?_;exact .call ((KV.out _ (k:Int) HVk.out hC.1).mono fun _ _ q=>⟨q.1,ai hC.1 q.2,fun q1=>bJ (hC.2.1 q1) q.2,fun q1=>bJ (hC.2.2 q1) q.2⟩);exact .call ((KT.out _ hC.1).mono fun _ _ q=>⟨q.1,ai hC.1 q.2,fun q1=>bJ (hC.2.1 q1) q.2,fun q1=>bJ (hC.2.2 q1) q.2⟩);exact .call ((KV.out _ (t:Int) HVt.out hC.1).mono fun _ _ q=>⟨q.1,ai hC.1 q.2,fun q1=>bJ (hC.2.1 q1) q.2,fun q1=>bJ (hC.2.2 q1) q.2⟩);exact .call ((KT.out _ hC.1).mono fun _ _ q=>⟨q.1,ai hC.1 q.2,fun q1=>bJ (hC.2.1 q1) q.2,fun q1=>bJ (hC.2.2 q1) q.2⟩);exact .call ((KH.out _ hC.1).mono fun _ _ q=>⟨q.1,ai hC.1 q.2,fun q1=>bJ (hC.2.1 q1) q.2,fun q1=>bJ (hC.2.2 q1) q.2⟩)
      ·have h37:=f.no 37 (by kernel_rfl);have q1:=hC.2.1 h37;refine .store rfl (nu rfl rfl rfl (Bo (Has.free q1 k) (q1.cell k |>.trans (ju (by rw[Yl.out.1];exact hlt))))) ⟨hC.1.setCell HGw.out _,fun q=>(by cases q),fun _=>Has.set q1 _⟩
      rintro _ w9 ⟨W9,_,VS⟩;replace VS:=VS rfl;clear hB hcs;simp only[dD,aZ,bg,de,dh];(go_wp2_with fail);go_roundw
      case rel=>exact⟨k+1,_,by omega,by go_num,W9,VS,h_ (Bz Yl.out XK.out)⟩
      case measure=>simp[intOf];omega
     ·replace XK:Hid (C k=false):=XK;refine lZ (fun fl (_:Unit) w'=>Bl w w'/\(fl 37=false->Has w' g cs 4)/\(fl 37=true->Has w' g (cs.setIfInBounds k (.bool false)) 4)) [37] [5,9,11,16,20,22,23,28,30,32,36,37] (fun _=>[.slice (bs g) n n,i_ k,af mr,af mr,.pointer (some ⟨mr,1,none⟩),af rb,af mr,af mr,af mr,af bm,i_ k,.bool true,.bool true,af mr,af mr,.pointer (some ⟨mr,1,none⟩),af rb,af mr,af mr,af mr,af bm,af mr,i_ t,.bool true,.bool true,af mr,af mr,af mr,af bm,af mr,i_ t,i_ k,.bool true,.bool true,.bool false,.bool false,.pointer (some ⟨g,k,none⟩),undef]) () ⟨hB.drew,fun _=>bJ hcs cg.drew,fun q=>by cases q⟩ ⟨fun fl g0 w' f hC=>.val (dy rfl rfl (gL (h.below hC.1).m1)) hC,fun fl g0 w' f hC=>.val (dy rfl rfl (eR (h.below hC.1).m0)) hC,fun fl g0 w' f hC=>?_,fun fl g0 w' f hC=>.val (dy rfl rfl (gL (h.below hC.1).m1)) hC,fun fl g0 w' f hC=>.val (dy rfl rfl (eR (h.below hC.1).m0)) hC,fun fl g0 w' f hC=>?_,fun fl g0 w' f hC=>?_,fun fl g0 w' f hC=>.val (dy rfl rfl (eR (h.below hC.1).m0)) hC,fun fl g0 w' f hC=>?_,fun fl g0 w' f hC=>?_,fun fl g0 w' f hC=>.val (fY rfl rfl rfl (yf _ _ _ _ _ hlt)) hC,fun fl g0 w' f hC=>?_,trivial⟩ ?_;exact .call ((KV.out _ (k:Int) HVk.out hC.1).mono fun _ _ q=>⟨q.1,ai hC.1 q.2,fun q1=>bJ (hC.2.1 q1) q.2,fun q1=>bJ (hC.2.2 q1) q.2⟩);exact .call ((KT.out _ hC.1).mono fun _ _ q=>⟨q.1,ai hC.1 q.2,fun q1=>bJ (hC.2.1 q1) q.2,fun q1=>bJ (hC.2.2 q1) q.2⟩);exact .call ((KV.out _ (t:Int) HVt.out hC.1).mono fun _ _ q=>⟨q.1,ai hC.1 q.2,fun q1=>bJ (hC.2.1 q1) q.2,fun q1=>bJ (hC.2.2 q1) q.2⟩);exact .call ((KT.out _ hC.1).mono fun _ _ q=>⟨q.1,ai hC.1 q.2,fun q1=>bJ (hC.2.1 q1) q.2,fun q1=>bJ (hC.2.2 q1) q.2⟩);exact .call ((KH.out _ hC.1).mono fun _ _ q=>⟨q.1,ai hC.1 q.2,fun q1=>bJ (hC.2.1 q1) q.2,fun q1=>bJ (hC.2.2 q1) q.2⟩)
      ·have h37:=f.no 37 (by kernel_rfl);have q1:=hC.2.1 h37;refine .store rfl (nu rfl rfl rfl (Bo (Has.free q1 k) (q1.cell k |>.trans (ju (by rw[Yl.out.1];exact hlt))))) ⟨hC.1.setCell HGw.out _,fun q=>(by cases q),fun _=>Has.set q1 _⟩
      rintro _ w9 ⟨W9,_,VS⟩;replace VS:=VS rfl;clear hB hcs;simp only[dD,aZ,bg,de,dh];(go_wp2_with fail);go_roundw
      case rel=>exact⟨k+1,_,by omega,by go_num,W9,VS,h_ (Bz Yl.out XK.out)⟩
      case measure=>simp[intOf];omega
  ·obtain rfl:k=n:=by omega
   have cm:=(h.below hB).m0
   have HS:=h_ (Ow bm g k cL aL (Hv r M) C k (au _) (by omega) wq (h_ fun w' hb=>by
    have:=HLs.out w' (ai hB hb);rwa[<-HN.out]at this) (h_ fun w' i hb hi=>by
    rw[(hb.cell (p:=⟨g,i,none⟩) hcs.lt),Has.cell hcs i];exact YI.out.2 i hi) (h_ fun w' i j hb hi hj=>KHh.out w' i j (by rw[<-HN.out];exact hi) (by rw[<-HN.out];exact hj) rfl (ai hB hb)))
   clear hcs;go_wp2_with fail
   refine HS.out.mono ?_;rintro e w9 ⟨v,rfl,hv,_,hb⟩;have HV:=h_ (kT.of hv rfl);have HB:=h_ (ai hB hb);clear hv hb HS cm hB;go_wp2_with fail
   go_ret;refine⟨v,rfl,?_,HB.out⟩;rw[HE.out,<-HN.out];exact HV.out
