import Derived.Test.YtkbjaadjnbgfbaaGreatDoorBBunQ44
import Derived.Test.YtkbjaadjnbgfbaaGreatDoorBShelfC
set_option maxRecDepth 100000
set_option maxHeartbeats 4000000
namespace Go.Proofs.YtkbjaadjnbgfbaaGreatDoor.An
open Go.RowKit Mem Sc
def gZ(w:World)(v:Value)(l:List Int):Prop:=w.ownsRow 0 3 1 v l.length (l.map (Value.int .i64))
variable{w:World}{v:Value}{l:List Int}
theorem qR(h:gZ w v l):(v=.slice none 0 0/\l=[])\/∃g c S,v=.slice (aT g) l.length c/\Has w g (l.map (Value.int .i64)++S).toArray 3/\c=l.length+S.length/\c<=maxLen:=by obtain⟨_,⟨rfl,h0⟩|⟨g,c,cur,rfl,_,hg,h1,h2,h3,h4⟩⟩:=h;exact .inl ⟨rfl,List.eq_nil_of_length_eq_zero h0⟩;rw[Nat.mul_one]at h3 h4;refine .inr ⟨g,c,cur.toList.drop l.length,rfl,?_,?_,h2⟩;rw[<-h4,List.take_append_drop];exact hg;have h5:cur.toList.length=cur.size:=Array.length_toList;rw[List.length_drop];omega
theorem oP{g c n:Nat}{S:List Value}(h:Has w g (l.map (Value.int .i64)++S).toArray 3)(hc:c=l.length+S.length)(hm:c<=maxLen)(hn:n=l.length):gZ w (.slice (aT g) n c) l:=by subst hn;exact⟨by simp,.inr ⟨g,c,_,rfl,Nat.zero_le _,h,by omega,hm,by simp;omega,by simp⟩⟩
theorem pF(w:World)(b o:Nat)(vs:List Value):Kp (fun k=>k=b) w (w.setCells b o vs):=by obtain⟨h1,h2,h3,h4⟩:=FF b vs o w;exact⟨h1,h2,h3,by rw[h4];exact Nat.le_refl _,fun k _ hn=>Lo b k hn vs o w⟩
theorem Dt(F:Nat->Prop)(w:World):Kp F w w.drew:=⟨rfl,rfl,rfl,Nat.le_refl _,fun _ _ _=>rfl⟩
theorem J6(l:List Int):∀v∈l.map (Value.int .i64),v.oneCell'=true:=fun v hv=>by
 obtain⟨_,_,rfl⟩:=List.mem_map.1 hv;rfl
theorem F4(l:List Int)(i:Nat):l.map (Value.int .i64)=(l.take i).map (Value.int .i64)++(l.drop i).map (Value.int .i64):=by rw[<-List.map_append,List.take_append_drop]
theorem oD(k:Nat):(Builtin.zeroCells (Value.int .i64 0).cells k).toList.length=k:=by simp[Builtin.zeroCells,Value.cells]
def GI(w w':World)(v:Value)(l':List Int)(v':Value):Prop:=gZ w' v' l'/\(v'.ownBlock=v.ownBlock\/∃g,v'.ownBlock=some g/\w.heap.size<=g)/\Kp (fun k=>v.ownBlock=some k) w w'
theorem M5(hl:gZ w v l)(i:Nat)(hi:i<=l.length)(hn:l.length<=1000)(vb:Nat)(x:Int)(hv:Has w vb #[i_ x] 3)(hne:∀k,v.ownBlock=some k->vb≠k):aG 98 #[v,i_ i,.slice (aT vb) 1 1] w fun e w'=>∃v',e=.returned v'/\GI w w' v (l.take i++x::l.drop i) v':=by
 have hx:∀j u,([Value.int .i64 x]:List Value)[j]?=some u->w.cell? ⟨vb,0+j,none⟩=some u:=by
  intro j u hj;rw[Nat.zero_add,hv.cell j];simpa using hj
 have h1v:∀u∈[Value.int .i64 x],u.oneCell'=true:=fun u hu=>by
  obtain rfl:u=Value.int .i64 x:=by simpa using hu
  rfl
 have hmx:maxLen=9223372036854775807:=rfl;rcases qR hl with⟨rfl,rfl⟩|⟨g,c,S,rfl,hg,hc,hm⟩
 ·obtain rfl:i=0:=by simpa using hi
  refine(Tryz.slices_Insert_int_end_grow none 0 0 vb 0 1 1 [] [i_ x] w (by decide) (by decide) (by decide) (by decide) rfl rfl (fun _=>rfl) (fun a ha=>by cases ha) hx h1v).mono ?_;rintro e w' ⟨rfl,rfl⟩;have hG:=grownCap_ge w (0+1) 0 3;have hM:=grownCap_le_maxLen w (0+1) 0 3 (by decide);refine⟨_,rfl,oP (S:=(Builtin.zeroCells (Value.int .i64 0).cells (grownCap w (0+1) 0 3-(0+1))).toList) ?_ ?_ hM rfl,.inr ⟨_,rfl,Nat.le_refl _⟩,Kp.of ((bf.drew).alloc (Nat.le_refl _) _)⟩;have:=Has.new (w:=w.drew) ((([]:List Value)++[Value.int .i64 x]).toArray++Builtin.zeroCells (Value.int .i64 0).cells (grownCap w (0+1) 0 3-(0+1))) 3;refine Eq.trans this ?_;congr 2;apply Array.toList_inj.1;simp;rw[oD];exact(Nat.add_sub_of_le hG).symm
 ·have hcell:∀j u,(l.map (Value.int .i64))[j]?=some u->w.cell? ⟨g,0+j,none⟩=some u:=by
   intro j u hj;rw[Nat.zero_add,hg.cell j,List.getElem?_toArray,List.getElem?_append_left (List.getElem?_eq_some_iff.1 hj).1];exact hj
  have hgv:vb≠g:=hne g rfl;have hlen:(l.map (Value.int .i64)).length=l.length:=List.length_map ..;by_cases hin:i=l.length
  ·subst hin;rw[List.take_length,List.drop_length];by_cases hroom:l.length+1<=c
   ·obtain⟨s,S',rfl⟩:∃s S',S=s::S':=by
     cases S with
     | nil=>simp at hc;omega
     | cons s S'=>exact⟨s,S',rfl⟩
    have hsome:∀j,j<1->(w.cell? ⟨g,0+l.length+j,none⟩).isSome=true:=fun j hj=>by
     obtain rfl:j=0:=(by omega);rw[Nat.zero_add,Nat.add_zero,hg.cell,List.getElem?_toArray,List.getElem?_append_right (by omega)];simp
    refine(Tryz.slices_Insert_int_end_room g 0 l.length c vb 0 1 1 [i_ x] w (by decide) hroom (by omega) rfl hsome (fun j _=>hg.free _) hx h1v).mono ?_;rintro e w' ⟨rfl,rfl⟩;rw[Nat.zero_add];have h2:=oN g 3 [Value.int .i64 x] l.length w (l.map (Value.int .i64)) [s] S' (by simpa using hg) hlen rfl;refine⟨_,rfl,oP (S:=S') (by simpa using h2) (by simp at hc|-;omega) hm (by simp),.inl rfl,(pF w g _ _).mono fun k hk _=>by rw[hk];rfl⟩
   refine(Tryz.slices_Insert_int_end_grow (aT g) l.length c vb 0 1 1 (l.map (Value.int .i64)) [i_ x] w (by decide) (by omega) (by omega) (by omega) hlen rfl (fun h=>by cases h) (fun a ha j u hj=>?_) hx h1v).mono ?_;cases ha;rw[Addr.add_lit];exact hcell j u hj;rintro e w' ⟨rfl,rfl⟩;have hG:=grownCap_ge w (l.length+1) c 3;have hM:=grownCap_le_maxLen w (l.length+1) c 3 (by omega);refine⟨_,rfl,oP (S:=(Builtin.zeroCells (Value.int .i64 0).cells (grownCap w (l.length+1) c 3-(l.length+1))).toList) ?_ ?_ hM (by simp),.inr ⟨_,rfl,Nat.le_refl _⟩,Kp.of ((bf.drew).alloc (Nat.le_refl _) _)⟩;have:=Has.new (w:=w.drew) ((l.map (Value.int .i64)++[Value.int .i64 x]).toArray++Builtin.zeroCells (Value.int .i64 0).cells (grownCap w (l.length+1) c 3-(l.length+1))) 3;refine Eq.trans this ?_;congr 2;apply Array.toList_inj.1;simp;rw[oD];simp;omega
  ·have hil:i<l.length:=by omega
   have hdl:((l.map (Value.int .i64)).drop i).length=l.length-i:=by rw[List.length_drop,hlen]
   obtain⟨q0,Q,hQ⟩:∃q0 Q,(l.drop i).map (Value.int .i64)=q0::Q:=by
    cases hd:(l.drop i).map (Value.int .i64)with
    | nil=>rw[List.map_eq_nil_iff,List.drop_eq_nil_iff]at hd;omega
    | cons q0 Q=>exact⟨q0,Q,rfl⟩
   have hQl:Q.length+1=l.length-i:=by
    have:=congrArg List.length hQ;rw[List.length_map,List.length_drop,List.length_cons]at this;omega
   have Ws:((l.take i).map (Value.int .i64)).length=i:=by rw[List.length_map,List.length_take];omega
   have hdm:(l.map (Value.int .i64)).drop i=q0::Q:=by rw[<-List.map_drop,hQ]
   have WU:(l.map (Value.int .i64)).take i=(l.take i).map (Value.int .i64):=by rw[<-List.map_take]
   by_cases hroom:l.length+1<=c
   ·obtain⟨s,S',rfl⟩:∃s S',S=s::S':=by
     cases S with
     | nil=>simp at hc;omega
     | cons s S'=>exact⟨s,S',rfl⟩
    have hsome:∀j,j<l.length+1->(w.cell? ⟨g,0+j,none⟩).isSome=true:=fun j hj=>by
     rw[Nat.zero_add,hg.cell,Array.getElem?_eq_getElem (by simp;omega)];rfl
    refine au (Tryz.slices_Insert_int_shift g 0 l.length c i vb 0 1 1 (l.map (Value.int .i64)) [i_ x] w hil (by decide) hroom (by omega) hgv hlen rfl hcell hsome (fun j _=>hg.free _) hx (J6 l) h1v 3 3 1 (l.map (Value.int .i64)++s::S').toArray.size (by unfold World.shape?;rw[hv.out];rfl) (by unfold World.shape?;rw[hg.out]) (by simp) (hv.free _) (hv.free _)) fun w' hw=>?_;rw[Nat.zero_add,Nat.zero_add,hdm]at hw;subst hw
    have h1:Has w.drew g (((l.take i).map (Value.int .i64)++[q0])++((Q++[s])++S')).toArray 3:=by
     have:=Has.drew hg;rw[F4 l i,hQ]at this;simpa using this
    have h2:=oN g 3 (q0::Q) (i+1) w.drew _ (Q++[s]) S' h1 (by rw[List.length_append,Ws];rfl) (by simp);have h3:=oN g 3 [Value.int .i64 x] i _ ((l.take i).map (Value.int .i64)) [q0] ((q0::Q)++S') (by simpa using h2) Ws rfl;refine⟨_,rfl,oP (S:=S') ?_ (by simp at hc|-;omega) hm (by simp;omega),.inl rfl,?_⟩;rw[List.map_append,List.map_cons,hQ];simpa using h3;exact(((Dt (fun k=>k=g) w).trans (pF _ g _ _) (fun _ h _=>h)).trans (pF _ g _ _) (fun _ h _=>h)).mono fun k hk _=>by rw[hk];rfl
   ·refine au (Tryz.slices_Insert_int_grow g 0 l.length c i vb 0 1 1 (l.map (Value.int .i64)) [i_ x] w hil (by decide) (by omega) (by omega) (by omega) hlen rfl hcell hx (J6 l) h1v) fun w' hw=>?_;rw[hdm,WU]at hw;have hG:=grownCap_ge w (l.length+1) c 3;have hM:=grownCap_le_maxLen w (l.length+1) c 3 (by omega);obtain⟨G,hGe⟩:∃G,G=grownCap w (l.length+1) c 3:=⟨_,rfl⟩;rw[<-hGe]at hw hG hM|-;have hz1:=oD (l.length+1-i);have hz2:=oD (G-(l.length+1));generalize Builtin.zeroCells (Value.int .i64 0).cells (l.length+1-i)=Z1 at hw hz1;generalize Builtin.zeroCells (Value.int .i64 0).cells (G-(l.length+1))=Z2 at hw hz2
    obtain⟨z0,Z3,hZ⟩:∃z0 Z3,Z1.toList=z0::Z3:=by
     cases hz:Z1.toList with
     | nil=>rw[hz]at hz1;simp at hz1;omega
     | cons z0 Z3=>exact⟨z0,Z3,rfl⟩
    have hZ3:Z3.length=l.length-i:=by
     rw[hZ,List.length_cons]at hz1;omega
    have h1:Has ((w.alloc (.cells (((l.take i).map (Value.int .i64)).toArray++Z1++Z2) 3)).drew) w.heap.size ((l.take i).map (Value.int .i64)++([z0]++(Z3++Z2.toList))).toArray 3:=by
     refine Eq.trans (Has.new (w:=w) (((l.take i).map (Value.int .i64)).toArray++Z1++Z2) 3) ?_;congr 2;apply Array.toList_inj.1;simp[hZ]
    have h2:=oN w.heap.size 3 [Value.int .i64 x] i _ _ [z0] (Z3++Z2.toList) h1 Ws rfl;have h3:=oN w.heap.size 3 (q0::Q) (i+1) _ ((l.take i).map (Value.int .i64)++[Value.int .i64 x]) Z3 Z2.toList (Has.drew (by rw[List.append_assoc];exact h2)) (by rw[List.length_append,Ws];rfl) (by rw[hZ3,List.length_cons];omega);refine⟨_,rfl,oP (S:=Z2.toList) ?_ (by rw[hz2];simp;omega) hM (by simp;omega),.inr ⟨_,rfl,Nat.le_refl _⟩,?_⟩;have e:(l.take i).map (Value.int .i64)++[Value.int .i64 x]++((q0::Q)++Z2.toList)=((l.take i).map (Value.int .i64)++Value.int .i64 x::(q0::Q))++Z2.toList:=(by simp);rw[e]at h3;rw[List.map_append,List.map_cons,hQ,hw];exact h3
    ·rw[hw];have hb:Bl w ((w.alloc (.cells (((l.take i).map (Value.int .i64)).toArray++Z1++Z2) 3)).drew):=aY.drew;refine(((Kp.of (F:=fun k=>k=w.heap.size) hb).trans (pF _ w.heap.size _ _) (fun _ h _=>h)).trans ((Dt (fun k=>k=w.heap.size) _).trans (pF _ w.heap.size _ _) (fun _ h _=>h)) (fun _ h _=>h)).mono fun k hk hlt=>?_
     omega
theorem GA(hl:gZ w v l)(hn:l.length<=1000):aG 100 #[v] w fun e w'=>∃v',e=.returned v'/\gZ w' v' l/\(∀k,v'.ownBlock=some k->w.heap.size<=k)/\Bl w w':=by
 have weak:∀{w':World}{v':Value},w'.ownsRow w.heap.size 3 1 v' l.length (l.map (Value.int .i64))->gZ w' v' l/\∀k,v'.ownBlock=some k->w.heap.size<=k:=fun h=>by
  refine⟨⟨h.1,h.2.imp id fun⟨g,c,cur,a1,_,a3⟩=>⟨g,c,cur,a1,Nat.zero_le _,a3⟩⟩,fun k hk=>(h.lt k hk).1⟩
 rcases qR hl with⟨rfl,rfl⟩|⟨g,c,S,rfl,hg,hc,hm⟩
 refine(Tryz.slices_Clone_int_nil 0 0 w).mono ?_;rintro e w' ⟨rfl,rfl⟩;exact⟨_,rfl,World.ownsRow_nil _ _ _ _,fun k hk=>(by cases hk),bf⟩
 ·by_cases h0:l=[];subst h0;refine(Tryz.slices_Clone_int_zero ⟨g,0,none⟩ c w).mono ?_;rintro e w' ⟨v',rfl,h1,_,hb⟩;exact⟨v',rfl,(weak h1).1,(weak h1).2,hb⟩
  ·have hc':∀j,j<l.length->w.cell? ⟨g,0+j,none⟩=some (i_ (l.getD j 0)):=fun j hj=>by
    rw[Nat.zero_add,hg.cell j,List.getElem?_toArray,List.getElem?_append_left (by simpa using hj),List.getElem?_map,List.getElem?_eq_getElem hj];simp[List.getD,hj]
   refine(Tryz.slices_Clone_int g 0 l.length c l w (Nat.le_refl _) (by omega) hc').mono ?_;rintro e w' ⟨v',rfl,h1,_,hb⟩;rw[List.take_length]at h1;exact⟨v',rfl,(weak h1).1,(weak h1).2,hb⟩
end Go.Proofs.YtkbjaadjnbgfbaaGreatDoor.An
namespace Go.Proofs.YtkbjaadjnbgfbaaGreatDoor
open Go.RowKit
namespace An
open Mem Sc
theorem FE(g:FuncId)(cb:Array Value)(n k:Nat)(p:Nat->Bool)(w:World)(hsz:n<4611686018427387904)(hk:k<=n)(H1:Hid (∀i,i<k->p i=false))(H2:Hid (∀i,k<=i->i<n->p i=true))(eg:∀args w,(callFunc g args).run Tryz.prog w=.ok (.enter g args) w)(KP:Hid (∀w' i,i<n->Bl w w'->aG g (#[i_ i]++cb) w' fun e w''=>e=.returned (.bool (p i))/\Bl w' w'')):ak 131 #[i_ n,.func (.func g) #[] cb] w (i_ k):=by
 have hB:=Below.refl w.heap.size w;go_enter Tryz.func131,Tryz.ntmps131;go_wp2_with fail
 go_loopw [5,6] (fun s5 s6 wr=>∃lo hi:Nat,s5=i_ lo/\s6=i_ hi/\lo<=k/\k<=hi/\hi<=n/\Bl w wr) (fun s5 s6 _=>((intOf s6)-(intOf s5)).toNat)
 case atStart=>exact⟨0,n,rfl,rfl,by omega,hk,Nat.le_refl _,hB⟩
 case round=>
  clear hB;obtain⟨lo,hi,rfl,rfl,hlo,hhi,hin,hB⟩:=hrel;by_cases hlt:lo<hi
  ·obtain⟨m,hm⟩:∃m,m=(lo+hi)/2:=⟨_,rfl⟩;have hc:=KP.out _ m (by omega) hB;have h1:=H1.out m;have h2:=H2.out m;have hmi:(m:Int)=((lo:Int)+(hi:Int))/2:=by omega
   rw[hmi]at hc;have HM:Hid (m=(lo+hi)/2):=h_ hm;cases hp:p m<;>rw[hp]at hc
   ·have HK:Hid (m<k):=h_ (Nat.lt_of_not_ge fun hh=>by have:=h2 hh (by omega);rw[hp]at this;cases this);clear h1 h2 hp hm hmi;go_wp2_with (go_at_fn g;refine hc.mono ?_;rintro e w' ⟨rfl,hb⟩)
    go_roundw
    case rel=>exact⟨m+1,hi,by have:=HM.out;go_num,rfl,by have:=HK.out;omega,hhi,hin,ah hB hb⟩
    case measure=>have:=HM.out;simp[intOf];omega
   ·have HK:Hid (k<=m):=h_ (Nat.le_of_not_lt fun hh=>by have:=h1 hh;rw[hp]at this;cases this);clear h1 h2 hp hm hmi;go_wp2_with (go_at_fn g;refine hc.mono ?_;rintro e w' ⟨rfl,hb⟩)
    go_roundw
    case rel=>exact⟨lo,m,rfl,by have:=HM.out;go_num,hlo,HK.out,by have:=HM.out;omega,ah hB hb⟩
    case measure=>have:=HM.out;simp[intOf];omega
  ·obtain rfl:lo=k:=by omega
   obtain rfl:hi=lo:=by omega
   go_wp2_with fail
   go_ret;exact⟨rfl,hB⟩
def lS(q:Option Addr)(lv:Value):Array Value:=#[.pointer q,lv]
variable{w:World}{s:Nat}{q:Option Addr}{lv:Value}
theorem j5(h:Has w s (lS q lv) 129):w.cell? ⟨s,0,none⟩=some (.pointer q):=Has.cell h 0
theorem ou(h:Has w s (lS q lv) 129):w.cell? ⟨s,1,none⟩=some lv:=Has.cell h 1
theorem rK(h:Has w s (lS q lv) 129)(v:Value):Has (w.setCell ⟨s,1,none⟩ v) s (lS q v) 129:=Has.set (i:=1) h v
theorem vh(p1 p2 s:Nat)(q:Option Addr)(g n c i:Nat)(x y:Int)(hv:Bool)(w:World)(c1:w.cell? ⟨p1,0,none⟩=some (af s))(c2:w.cell? ⟨p2,0,none⟩=some (i_ x))(c3:w.cell? ⟨s,0,none⟩=some (.pointer q))(c4:w.cell? ⟨s,1,none⟩=some (.slice (aT g) n c))(c5:w.cell? ⟨g,i,none⟩=some (i_ y))(hi:i<n)(KH:aQ w 31 #[.pointer q,i_ y,i_ x] (.bool hv)):ak 132 #[i_ i,af p1,af p2] w (.bool (!hv)):=by
 have hR:∀d os,Bl w (Sort.grow (redrawn w d) os):=fun d os=>below_regrown w d os
 have q1:∀d os,(Sort.grow (redrawn w d) os).cell? ⟨p1,0,none⟩=some (af s):=cell_regrown c1;have q2:∀d os,(Sort.grow (redrawn w d) os).cell? ⟨p2,0,none⟩=some (i_ x):=cell_regrown c2;have q3:∀d os,(Sort.grow (redrawn w d) os).cell? ⟨s,0,none⟩=some (.pointer q):=cell_regrown c3;have q4:∀d os,(Sort.grow (redrawn w d) os).cell? ⟨s,1,none⟩=some (.slice (aT g) n c):=cell_regrown c4;have q5:∀d os,(Sort.grow (redrawn w d) os).cell? ⟨g,i,none⟩=some (i_ y):=cell_regrown c5;clear c1 c2 c3 c4 c5;go_enter Tryz.func132,Tryz.ntmps132;go_wp2_with fail
 refine wp_region_quiet_below (by kernel_rfl) (by kernel_rfl) ?_
 repeat(first
  | go_big_quiet_step ((go_at_call 31;exact Calls.regrown_of (KH.out _ (hR _ _)))))
 refine wpQuiet_nil ?_;intro v3 hw';have hb:=mT v3 hw';clear hw' hR q1 q2 q3 q4 q5;go_wp2_with fail
 go_ret;exact⟨rfl,hb⟩
theorem Mf(p1 p2 s:Nat)(q:Option Addr)(g n c i:Nat)(x y:Int)(hv:Bool)(w:World)(c1:w.cell? ⟨p1,0,none⟩=some (af s))(c2:w.cell? ⟨p2,0,none⟩=some (i_ x))(c3:w.cell? ⟨s,0,none⟩=some (.pointer q))(c4:w.cell? ⟨s,1,none⟩=some (.slice (aT g) n c))(c5:w.cell? ⟨g,i,none⟩=some (i_ y))(hi:i<n)(KH:aQ w 31 #[.pointer q,i_ x,i_ y] (.bool hv)):ak 135 #[i_ i,af p1,af p2] w (.bool hv):=by
 have hR:∀d os,Bl w (Sort.grow (redrawn w d) os):=fun d os=>below_regrown w d os
 have q1:∀d os,(Sort.grow (redrawn w d) os).cell? ⟨p1,0,none⟩=some (af s):=cell_regrown c1;have q2:∀d os,(Sort.grow (redrawn w d) os).cell? ⟨p2,0,none⟩=some (i_ x):=cell_regrown c2;have q3:∀d os,(Sort.grow (redrawn w d) os).cell? ⟨s,0,none⟩=some (.pointer q):=cell_regrown c3;have q4:∀d os,(Sort.grow (redrawn w d) os).cell? ⟨s,1,none⟩=some (.slice (aT g) n c):=cell_regrown c4;have q5:∀d os,(Sort.grow (redrawn w d) os).cell? ⟨g,i,none⟩=some (i_ y):=cell_regrown c5;clear c1 c2 c3 c4 c5;go_enter Tryz.func135,Tryz.ntmps135;go_wp2_with fail
 refine wp_region_quiet_below (by kernel_rfl) (by kernel_rfl) ?_
 repeat(first
  | go_big_quiet_step ((go_at_call 31;exact Calls.regrown_of (KH.out _ (hR _ _)))))
 refine wpQuiet_nil ?_;intro v3 hw';have hb:=mT v3 hw';clear hw' hR q1 q2 q3 q4 q5;go_wp2_with fail
 go_ret;exact⟨rfl,hb⟩
def iZ(w:World)(ad:Option Addr)(l:List Int):Prop:=∀i (hi:i<l.length),∃g,ad=some ⟨g,0,none⟩/\w.cell? ⟨g,i,none⟩=some (i_ l[i])
theorem iZ.below{w':World}{ad:Option Addr}{l:List Int}(h:iZ w ad l)(hb:Bl w w'):iZ w' ad l:=fun i hi=>by
 obtain⟨g,h1,h2⟩:=h i hi;exact⟨g,h1,(hb.cell (p:=⟨g,i,none⟩) (block_lt_of_cell h2)).trans h2⟩
theorem sw(s:Nat)(q:Option Addr)(ad:Option Addr)(l:List Int)(n c:Nat)(x:Int)(k:Nat)(p:Nat->Bool)(hn:n=l.length)(hn1:n<=1000)(hk:k<=n)(H1:Hid (∀i,i<k->p i=false))(H2:Hid (∀i,k<=i->i<n->p i=true))(g2:Bool)(hg:Hid (∀h:k<l.length,(l[k]==x)=g2))(hg':k=n->g2=false)(w:World)(hS:Has w s (lS q (.slice ad n c)) 129)(hC:iZ w ad l)(KH:Hid (∀w' i (hi:i<l.length),Bl w w'->ak 31 #[.pointer q,i_ l[i],i_ x] w' (.bool (!p i)))):ak 96 #[af s,i_ x] w (.tuple #[i_ k,.bool g2]):=by
 have HN:=h_ hn;have HC:=h_ hC;clear hn hC;go_enter Tryz.func96,Tryz.ntmps96;go_upto_region 1 with fail
 generalize hw0:World.alloc _ _=v0;have hB:Bl w v0:=by rw[<-hw0];exact aY.alloc (by simp) _
 have b1:v0.cell? ⟨w.heap.size,0,none⟩=some (af s):=by rw[<-hw0];exact Has.cell (Has.alloc (Has.new #[af s] _) _) 0
 have b2:v0.cell? ⟨w.heap.size+1,0,none⟩=some (i_ x):=by rw[<-hw0];exact NN.Has.cell (NN.Has.R6 _ #[i_ x] _) 0
 clear hw0;obtain⟨p1,e1⟩:∃y,y=w.heap.size:=⟨_,rfl⟩;obtain⟨p2,e2⟩:∃y,y=w.heap.size+1:=⟨_,rfl⟩;rw[<-e2]at b2|-;rw[<-e1]at b1|-;clear e1 e2;have hS0:=cg hB hS (Has.lt hS);have c3:=j5 hS0;have c4:=ou hS0;have B1:=h_ b1;have B2:=h_ b2;have C3:=h_ c3;have C4:=h_ c4;have U1:=h_ (HC.out.below hB);have HB0:=h_ hB;clear hS hS0 HC b2 c3;go_wp2_with fail
 refine(FE 132 #[af p1,af p2] n k p v0 (by omega) hk H1 H2 (enters_of Tryz.func132 (by kernel_rfl) rfl) (h_ fun w' i hi hb=>?_)).mono ?_
 ·have hil:i<l.length:=by rw[<-HN.out];exact hi
  obtain⟨g,hg1,hg2⟩:=U1.out.below hb i hil;subst hg1;have hc:∀{a:Addr}{u:Value},v0.cell? a=some u->w'.cell? a=some u:=fun h=>(hb.cell (block_lt_of_cell h)).trans h
  have:=vh p1 p2 s q g n c i x l[i] (!p i) w' (hc B1.out) (hc B2.out) (hc C3.out) (hc C4.out) hg2 hi (h_ fun w'' hb'=>KH.out w'' i hil (HB0.out.trans ((ah hb hb').mono HB0.out.size)));rwa[Bool.not_not]at this
 rintro e v1 ⟨rfl,hb⟩;have c4':=(hb.cell (p:=⟨s,1,none⟩) (block_lt_of_cell C4.out)).trans C4.out;have b1':=(hb.cell (p:=⟨p1,0,none⟩) (block_lt_of_cell B1.out)).trans B1.out;have b2':=(hb.cell (p:=⟨p2,0,none⟩) (block_lt_of_cell B2.out)).trans B2.out;replace hB:=ah hB hb;have U8:=h_ (U1.out.below hb);clear hb U1 B1 B2 C3 C4 c4 b1 HB0 KH H1 H2;have q1:∀d os,(Sort.grow (redrawn v1 d) os).cell? ⟨p1,0,none⟩=some (af s):=cell_regrown b1';have q2:∀d os,(Sort.grow (redrawn v1 d) os).cell? ⟨p2,0,none⟩=some (i_ x):=cell_regrown b2';have q4:∀d os,(Sort.grow (redrawn v1 d) os).cell? ⟨s,1,none⟩=some (.slice ad n c):=cell_regrown c4';by_cases hkn:k<n
 ·have hkl:k<l.length:=by rw[<-HN.out];exact hkn
  obtain⟨g,hg1,hg2⟩:=U8.out k hkl;subst hg1;have hgg:=hg.out hkl;generalize l[k]=y at*;have q5:∀d os,(Sort.grow (redrawn v1 d) os).cell? ⟨g,k,none⟩=some (i_ y):=cell_regrown hg2;have hd:decide ((k:Int)<(n:Int))=true:=decide_eq_true (by omega);clear hg2 U8 hkl b1' b2' c4' hg hg';go_wp2_with fail
  refine wp_region_quiet_below (by kernel_rfl) (by kernel_rfl) ?_
  repeat(first
   | go_big_quiet_step (fail))
  refine wpQuiet_nil ?_;intro v3 hw';have hb:=mT v3 hw';replace hB:=ah hB hb;clear hw' hb q1 q2 q4 q5;go_wp2_with fail
  go_ret2;exact⟨rfl,hB⟩
 ·have hd:decide ((k:Int)<(n:Int))=false:=decide_eq_false (by omega);have hd2:decide (k<n)=false:=decide_eq_false hkn;obtain rfl:=hg' (by omega);clear U8 b1' b2' c4' hg hg' hkn;go_wp2_with fail
  refine wp_region_quiet_below (by kernel_rfl) (by kernel_rfl) ?_
  repeat(first
   | go_big_quiet_step (fail))
  refine wpQuiet_nil ?_;intro v3 hw';have hb:=mT v3 hw';replace hB:=ah hB hb;clear hw' hb q1 q2 q4;go_wp2_with fail
  go_ret2;exact⟨rfl,hB⟩
theorem yr(s:Nat)(q:Option Addr)(ad:Option Addr)(l:List Int)(n c:Nat)(x:Int)(k:Nat)(p:Nat->Bool)(hn:n=l.length)(hn1:n<=1000)(hk:k<=n)(H1:Hid (∀i,i<k->p i=false))(H2:Hid (∀i,k<=i->i<n->p i=true))(w:World)(hS:Has w s (lS q (.slice ad n c)) 129)(hC:iZ w ad l)(KH:Hid (∀w' i (hi:i<l.length),Bl w w'->ak 31 #[.pointer q,i_ x,i_ l[i]] w' (.bool (p i)))):ak 99 #[af s,i_ x] w (i_ k):=by
 have HN:=h_ hn;have HC:=h_ hC;clear hn hC;go_enter Tryz.func99,Tryz.ntmps99;go_upto_region 1 with fail
 generalize hw0:World.alloc _ _=v0;have hB:Bl w v0:=by rw[<-hw0];exact aY.alloc (by simp) _
 have b1:v0.cell? ⟨w.heap.size,0,none⟩=some (af s):=by rw[<-hw0];exact Has.cell (Has.alloc (Has.new #[af s] _) _) 0
 have b2:v0.cell? ⟨w.heap.size+1,0,none⟩=some (i_ x):=by rw[<-hw0];exact NN.Has.cell (NN.Has.R6 _ #[i_ x] _) 0
 clear hw0;obtain⟨p1,e1⟩:∃y,y=w.heap.size:=⟨_,rfl⟩;obtain⟨p2,e2⟩:∃y,y=w.heap.size+1:=⟨_,rfl⟩;rw[<-e2]at b2|-;rw[<-e1]at b1|-;clear e1 e2;have hS0:=cg hB hS (Has.lt hS);have c3:=j5 hS0;have c4:=ou hS0;have B1:=h_ b1;have B2:=h_ b2;have C3:=h_ c3;have C4:=h_ c4;have U1:=h_ (HC.out.below hB);have HB0:=h_ hB;clear hS hS0 HC b2 c3;go_wp2_with fail
 refine(FE 135 #[af p1,af p2] n k p v0 (by omega) hk H1 H2 (enters_of Tryz.func135 (by kernel_rfl) rfl) (h_ fun w' i hi hb=>?_)).mono ?_
 ·have hil:i<l.length:=by rw[<-HN.out];exact hi
  obtain⟨g,hg1,hg2⟩:=U1.out.below hb i hil;subst hg1;have hc:∀{a:Addr}{u:Value},v0.cell? a=some u->w'.cell? a=some u:=fun h=>(hb.cell (block_lt_of_cell h)).trans h
  exact Mf p1 p2 s q g n c i x l[i] (p i) w' (hc B1.out) (hc B2.out) (hc C3.out) (hc C4.out) hg2 hi (h_ fun w'' hb'=>KH.out w'' i hil (HB0.out.trans ((ah hb hb').mono HB0.out.size)))
 rintro e v1 ⟨rfl,hb⟩;replace hB:=ah hB hb;clear hb U1 B1 B2 C3 C4 c4 b1 HB0 KH H1 H2;go_wp2_with fail
 go_ret;exact⟨rfl,hB⟩
theorem I4(s:Nat)(q:Option Addr)(lv:Value)(x:Int)(e:En)(he:e.ok)(g:Bool)(w:World)(hS:Has w s (lS q lv) 129)(KA:aQ w 29 #[.pointer q,i_ x] (.tuple #[.agg (bT e),.bool g])):ak 97 #[af s,i_ x] w (.bool g):=by
 have z0:=gE cZ;have z1:=gE he;have hB:=Below.refl w.heap.size w;have c0:=j5 hS;clear hS;go_enter Tryz.func97,Tryz.ntmps97;go_wp2_with fail
 refine(KA.out _ hB).mono ?_;rintro u v1 ⟨rfl,hb⟩;replace hB:=ah hB hb;clear hb c0;have hnew:=gL v1;have hb2:Bl v1 ((v1.alloc (.cells Tryz.zeroCells60 60)).setRow v1.heap.size (bT e)):=below_setRow aY (Nat.le_refl _) _;replace hB:=ah hB hb2;clear hb2;go_wp2_with (with_reducible refine gX rfl _ _ rfl _ _ e rfl rfl rfl z1 hnew z0 ?_)
 go_ret;exact⟨rfl,hB⟩
open NN.Si
theorem Fs{α β:Type}(f:β->α->β)(l:β)(ps:List α)(k:Nat)(hk:k<ps.length):(ps.take (k+1)).foldl f l=f ((ps.take k).foldl f l) ps[k]:=by rw[List.take_add_one,List.getElem?_eq_getElem hk,Option.toList_some,List.foldl_append];rfl
theorem Px{ops:Array Oper}{rest:List Oper}{o:Oper}{a:Act}{Q:Exit->Act->World->Prop}(hgd:o.guard=none)(x y:Operand)(ho:o.op=.store 49 x y)(q:Addr)(ad:Option Addr)(n c:Nat)(u:Value)(hx:a.eval x=.pointer (some q))(hy:a.eval y=.slice ad n c)(hf:w.frozen? q=false)(hc:w.cell? q=some u)(hk:wpList Tryz.prog ops Q rest (a.put o.dst undef) (w.setCell q (.slice ad n c))):wpList Tryz.prog ops Q (o::rest) a w:=
 wpList_plain hgd fun _ hK=>by
  unfold Oper.wp;rw[Ax ho hx hy hf hc];exact hK _ _ hk
def xR(s:Nat)(St:World->List Nat->Prop)(m:List Nat)(e:Ending)(w:World):Prop:=∃ad n c u,e=.returned (.slice ad n c)/\w.cell? ⟨s,1,none⟩=some u/\w.frozen? ⟨s,1,none⟩=false/\St (w.setCell ⟨s,1,none⟩ (.slice ad n c)) m
def Oi(s:Nat)(St:World->List Nat->Prop)(f:List Nat->Int->List Nat)(wr:World)(m:List Nat)(x:Int):Prop:=
 ∃(k:Nat)(th is:Bool),(∀w',Bl wr w'->ak 96 #[af s,i_ x] w' (.tuple #[i_ k,.bool th]))/\(∀w',Bl wr w'->ak 97 #[af s,i_ x] w' (.bool is))/\((th=true\/is=false)->f m x=m)/\
  (th=false->is=true->∀w',Bl wr w'->∃ad c,w'.cell? ⟨s,1,none⟩=some (.slice ad m.length c)/\∀w2 vb,Bl w' w2->w'.heap.size<=vb->Has w2 vb #[i_ x] 3->aG 98 #[.slice ad m.length c,i_ k,.slice (aT vb) 1 1] w2 fun e w3=>xR s St (f m x) e w3)
theorem zS(s:Nat)(a:Option Addr)(n c:Nat)(ps:List Int)(HN:Hid (n=ps.length))(hn2:n<=1000)(St:World->List Nat->Prop)(f:List Nat->Int->List Nat)(l:List Nat)(w:World)(HS:Hid (St w l))(KB:Hid (∀wr wr' m,St wr m->Bl wr wr'->St wr' m))(KL:Hid (∀wr m,St wr m->m.length<=900/\∃ad c,wr.cell? ⟨s,1,none⟩=some (.slice ad m.length c)))(KA:Hid (∀wr m,St wr m->0<n->∃ab ao,a=some ⟨ab,ao,none⟩/\∀i (hi:i<ps.length),wr.cell? ⟨ab,ao+i,none⟩=some (i_ ps[i])))(KR:Hid (∀wr m x,St wr m->Oi s St f wr m x)):aG 59 #[af s,.slice a n c] w fun e w'=>e=.returned (i_ (((ps.foldl f l).length:Int)-(l.length:Int)))/\St w' (ps.foldl f l):=by
 obtain⟨Wk,ad,cc,c1⟩:=KL.out w l HS.out;obtain⟨L,hL⟩:∃L,L=l.length:=⟨_,rfl⟩;rw[<-hL]at c1 Wk|-;clear hL;obtain⟨R,hR⟩:∃R,R=ps.foldl f l:=⟨_,rfl⟩;rw[<-hR];obtain⟨z,hz⟩:∃z:Int,z=(R.length:Int)-(L:Int):=⟨_,rfl⟩;rw[<-hz];have HR:=h_ hR;have HZ:=h_ hz;clear hR hz;go_enter Tryz.func59,Tryz.ntmps59;go_wp2_with fail
 go_loopw [19] (fun i wr=>∃(k:Nat)(m:List Nat),k<=n/\i=i_ k/\Hid (m=(ps.take k).foldl f l)/\Hid (St wr m)) (fun i _=>n-(intOf i).toNat)
 case atStart=>exact⟨0,l,by omega,rfl,h_ rfl,HS⟩
 case round=>
  clear c1 HS;obtain⟨k,m,hk,rfl,HM,WL⟩:=hrel;by_cases hlt:k<n
  ·obtain⟨ab,ao,hae,hc⟩:=KA.out wr m WL.out (by omega);subst hae;have hk2:k<ps.length:=by rw[<-HN.out];exact hlt
   have c0:=hc k hk2;have Vh:Hid ((ps.take (k+1)).foldl f l=f m ps[k]):=h_ (by rw[Fs f l ps k hk2,<-HM.out]);generalize ps[k]=x at*;clear hc hk2 HM;obtain⟨j,th,is,K1,K2,F1,F2⟩:=KR.out wr m x WL.out;replace K1:=h_ K1;replace K2:=h_ K2;have Yc:=h_ F1;have Tz:=h_ F2;clear F1 F2;cases th
   case true=>
    have HF:Hid (f m x=m):=h_ (Yc.out (.inl (by simp)));clear Yc Tz K2;(go_wp2_with fail);refine au (K1.out _ bf) fun v1 hb1=>?_;clear K1 c0;(go_wp2_with fail);go_roundw
    case rel=>exact⟨k+1,m,by omega,by go_num,h_ (by rw[Vh.out,HF.out]),h_ (KB.out _ _ _ WL.out hb1)⟩
    case measure=>simp[intOf];omega
   case false=>
    cases is
    case false=>
     have HF:Hid (f m x=m):=h_ (Yc.out (.inr (by simp)));clear Yc Tz;(go_wp2_with fail);refine au (K1.out _ bf) fun v1 hb1=>?_;(go_wp2_with fail);refine au (K2.out _ hb1) fun v2 hb2=>?_;replace hb1:=ah hb1 hb2;clear hb2;clear K1 K2 c0;(go_wp2_with fail);go_roundw
     case rel=>exact⟨k+1,m,by omega,by go_num,h_ (by rw[Vh.out,HF.out]),h_ (KB.out _ _ _ WL.out hb1)⟩
     case measure=>simp[intOf];omega
    case true=>
     clear Yc;(go_wp2_with fail);refine au (K1.out _ bf) fun v1 hb1=>?_;(go_wp2_with fail);refine au (K2.out _ hb1) fun v2 hb2=>?_;replace hb1:=ah hb1 hb2;clear hb2;clear K1 K2 c0;obtain⟨ad3,c3,c1,KI⟩:=Tz.out (by simp) (by simp) _ hb1;have HI:=h_ KI;clear KI Tz;have hmk:=fun w=>nK w x
     (go_wp2_with fail);refine(HI.out _ v2.heap.size aY (Nat.le_refl _) (Has.new _ _)).mono ?_;rintro e v3 ⟨ad4,n4,c4,u,rfl,hcell,hfree,hst⟩;have HST:=h_ hst;clear hst HI c1 hmk;(go_wp2_with (first|(with_reducible refine Px rfl _ _ rfl ⟨s,1,none⟩ _ _ _ _ rfl rfl hfree hcell ?_)));go_roundw
     case rel=>exact⟨k+1,f m x,by omega,by go_num,h_ Vh.out.symm,HST⟩
     case measure=>simp[intOf];omega
  ·obtain rfl:k=n:=by omega
   obtain⟨VD,ad2,c2,c1⟩:=KL.out wr m WL.out;have HE:m=R:=by rw[HM.out,HN.out,List.take_length,HR.out]
   subst HE;clear HM;obtain⟨M,hM⟩:∃M,M=m.length:=⟨_,rfl⟩;rw[<-hM]at c1 VD;have wz:IntKind.i64.wrap ((M:Int)-(L:Int))=z:=by rw[IntKind.wrap_i64];have:=HZ.out;omega
   clear hM;go_wp2_with fail
   go_ret;exact⟨rfl,WL.out⟩
def RM(s:Nat)(x:Int)(v:Value)(k:Nat)(ad:Option Addr)(c:Nat):Nat->Value->Prop
 | 0,u=>u=af s
 | 1,u=>u=af s
 | 2,u=>u=af s
 | 3,u=>u=.pointer (some ⟨s,1,none⟩)
 | 4,u=>u=v
 | 5,u=>u=af s
 | 6,u=>u=i_ x
 | 7,u=>u=i_ k
 | 8,u=>u=.slice ad k c
 | 9,u=>u=af s
 | 10,u=>u=.pointer (some ⟨s,1,none⟩)
 | _,_=>s=s
theorem oz(w:World)(g:Nat):(Instr.fieldAt 129 (af g) 1).run Tryz.prog w=.ok (.pointer (some ⟨g,1,none⟩)) w:=by kernel_rfl
theorem qC(s:Nat)(q:Option Addr)(pa ad:Option Addr)(n c k:Nat)(hn:n<=1000)(hk:k<=n)(x:Int)(w:World)(hS:Has w s (lS q (.slice pa n c)) 129)(KA:aQ w 99 #[.pointer (some ⟨s,0,none⟩),.int .i64 x] (.int .i64 (k:Int)))(KS:Hid (∀w',(Instr.sliceAt 49 (.slice pa n c) none (some (.int .i64 (k:Int))) none).run Tryz.prog w'=.ok (.slice ad k c) w')):aG 60 #[.pointer (some ⟨s,0,none⟩),.int .i64 x] w fun e w'=>e=.returned (.int .i64 ((n:Int)-(k:Int)))/\Has w' s (lS q (.slice ad k c)) 129/\Kp (fun i=>i=s) w w':=by
 have c1:=ou hS;obtain⟨z,hz⟩:∃z:Int,z=(n:Int)-(k:Int):=⟨_,rfl⟩;rw[<-hz];have wz:IntKind.i64.wrap ((n:Int)-(k:Int))=z:=by rw[IntKind.wrap_i64];omega
 have hsl:=Has.lt hS;clear hz;go_enter Tryz.func60,Tryz.ntmps60;go_upto_region 4 with fail
 clear c1;refine ix (by kernel_rfl) (fun w'=>Kp (fun i=>i=s) w w') (fun i v' _=>RM s x (.slice pa n c) k ad c i v') (fun l _ w'=>Ph 11 (fun w'=>Bl w w'/\Has w' s (lS q (.slice pa n c)) 129) (fun w'=>Has w' s (lS q (.slice ad k c)) 129) l w') (fun _ _=>True) (fun _ _=>trivial) (fun _ _ _ _ _ _ h=>h) (by kernel_rfl) (Dt _ w) ?_ ?_ ?_;exact fun l hl=>Ph.zero hl ⟨bf.drew,Has.drew hS⟩
 ·intro i o lz a wx ho' hnl dq Z;have hC:=Z.c;have hI:=Z.i;have hi:i<12:=(Array.getElem?_eq_some_iff.1 ho').1;obtain rfl|rfl|rfl|rfl|rfl|rfl|rfl|rfl|rfl|rfl|rfl|rfl:i=0\/i=1\/i=2\/i=3\/i=4\/i=5\/i=6\/i=7\/i=8\/i=9\/i=10\/i=11:=by omega
  all_goals obtain rfl:=Option.some.inj ho'
  exact aP 0 Z (an rfl) (NN.dy rfl) (Z.old' 0) (hI.keep (av Z 0));exact aP 1 Z (an rfl) (NN.dy rfl) (Z.old' 0) (hI.keep (av Z 1));exact aP 2 Z (an rfl) (cG rfl (ar Z dq 1 14)) rfl (hI.keep (av Z 2));exact aP 3 Z (an rfl) (dm rfl (ar Z dq 2 15) (oz wx s)) rfl (hI.keep (av Z 3));have hsz:=av Z 4;have R7:=dz Z hnl 11;have hpre:=hI.pre R7 hsz (by decide);exact aP 4 Z (an rfl) (BS rfl (ar Z dq 3 16) (ou hpre.2)) rfl (hI.keep hsz);exact aP 5 Z (an rfl) (NN.dy rfl) (Z.old' 0) (hI.keep (av Z 5));exact aP 6 Z (an rfl) (NN.dy rfl) (Z.old' 1) (hI.keep (av Z 6))
  ·have hsz:=av Z 7;have R7:=dz Z hnl 11;have hpre:=hI.pre R7 hsz (by decide);exact mf (S:=mQ) 7 Z (an rfl) (f:=99) (args:=#[a.eval (.tmp 18),a.eval (.tmp 19)]) (by kernel_rfl) (by rw[show a.eval (.tmp 18)=_ from(ar Z dq 5 18)];rw[show a.eval (.tmp 19)=_ from(ar Z dq 6 19)];  exact KA.out wx hpre.1) (fun w' hb=>⟨hC.trans (Kp.of (F:=fun i=>i=s) hb) (fun _ h _=>h),trivial,rfl,Ph.made R7 (⟨ah hpre.1 hb,cg hb hpre.2 (Has.lt hpre.2)⟩)⟩)
  exact aP 8 Z (an rfl) (G3 rfl (ar Z dq 4 17) (ar Z dq 7 20) (KS.out wx)) rfl (hI.keep (av Z 8));exact aP 9 Z (an rfl) (cG rfl (ar Z dq 0 13)) rfl (hI.keep (av Z 9));exact aP 10 Z (an rfl) (dm rfl (ar Z dq 9 22) (oz wx s)) rfl (hI.keep (av Z 10));have hsz:=av Z 11;have hR0:=hI.1 hnl;exact pr 11 Z (an rfl) (Ax rfl (ar Z dq 10 23) (ar Z dq 8 21) (Has.free hR0.2 1) (ou hR0.2)) (hC.trans (Kp.gb (F:=fun i=>i=s) (fJ wx s 1 _) (fun k hk=>(Option.some.inj hk).symm)) (fun _ h _=>h)) rfl (Ph.last hsz (rK hR0.2 _))
 intro lz a' v9 hall Z;have hK:=Z.c;have WC:=Z.i.2 (hall 11 (by decide));have e0:a'.eval (.tmp 0)=.pointer (some ⟨s,0,none⟩):=Z.old' 0;have e5:a'.eval (.tmp 5)=.int .i64 (n:Int):=Z.old' 5;obtain⟨u,hu⟩:∃u:Nat->Value,∀t,u t=a'.eval (.tmp t):=⟨_,fun _=>rfl⟩;rw[e_ a' 31 u Z.R4 Z.defers hu];rw[<-hu]at e0 e5;clear hu Z hall;simp only[List.range,List.range.loop,List.map_cons,List.map_nil];rw[e0,e5];clear e0 e5;have c1:=ou WC;go_wp2_with fail
 go_ret;exact⟨rfl,WC,hK⟩
theorem Ky(s:Nat)(q:Option Addr)(v:Value)(hv:∃a n c,v=.slice a n c)(P:World->World->Value->Prop)(w:World)(hS:Has w s (lS q v) 129)(KC:Hid (aG 100 #[v] w fun e w'=>∃v',e=.returned v'/\P w w' v')):aG 61 #[af s] w fun e w'=>∃v',e=.returned v'/\P w w' v':=by
 have c1:=ou hS;obtain⟨a,n,c,rfl⟩:=hv;clear hS;go_enter Tryz.func61,Tryz.ntmps61;go_wp2_with fail
 refine KC.out.mono ?_;rintro e v1 ⟨v',rfl,hp⟩;have HP:=h_ hp;clear hp c1;go_wp2_with fail
 go_ret;exact⟨v',rfl,HP.out⟩
theorem MZ(q:Option Addr):Tryz.prog.built 129 [(0,.pointer q)]=some (lS q (.slice none 0 0)):=by kernel_rfl
theorem Da(q:Option Addr)(w:World):aG 56 #[.pointer q] w fun e w'=>e=.returned (.pointer (some ⟨w.heap.size,0,none⟩))/\w'=w.alloc (.cells (lS q (.slice none 0 0)) 129):=by
 have hbu:=MZ q;go_enter Tryz.func56,Tryz.ntmps56;go_wp2_with fail
 go_ret;exact⟨rfl,rfl⟩
end An
namespace An
open Mem Sc
open Ar (aq Ru aB Ok cp)
open Tp (mh ki spot ins)
def zs(l:List Nat):List Int:=l.map fun(k:Nat)=>(k:Int)
theorem zc(w:World):gZ w (.slice none 0 0) []:=World.ownsRow_nil _ _ _ _
theorem jk(l:List Nat):(zs l).length=l.length:=List.length_map ..
theorem lj(l:List Nat)(i:Nat)(hi:i<(zs l).length):(zs l)[i]=((l[i]'(by rwa[jk]at hi):Nat):Int):=by simp[zs]
structure lR (r:Ru) (M:List aq) (l:List Nat):Prop where
 kp:ki (Hv r M) l
 lt:∀x∈l,x<M.length
theorem lR.nil(r:Ru)(M:List aq):lR r M []:=⟨ki.nil _,fun x h=>by simp at h⟩
theorem lR.few{r:Ru}{M:List aq}{l:List Nat}(h:lR r M l):l.length<=M.length:=Bo (h.kp.nodup (ef r M)) h.lt
def dF(w:World)(F:Nat->Prop)(q:Option Addr)(r:Ru)(M:List aq):Prop:=(∃bt ls,q=some ⟨bt,0,none⟩/\f_ w F bt r M ls)\/(q=none/\M=[])
def fs(w:World)(G:Nat->Prop)(s:Nat)(q:Option Addr)(l:List Nat):Prop:=(∀i,G i->i<w.heap.size)/\∃v,Has w s (lS q v) 129/\gZ w v (zs l)/\G s/\(∀i,v.ownBlock=some i->G i)/\∀i,v.ownBlock=some i->i≠s
section
variable{w w':World}{F G:Nat->Prop}{s:Nat}{q:Option Addr}{r:Ru}{M:List aq}{l:List Nat}
variable{D:Nat->Prop}
theorem dF.on(h:dF w F q r M)(k:Kp D w w')(hD:∀i,F i->¬D i):dF w' F q r M:=
 h.imp (fun⟨bt,ls,e,hS⟩=>⟨bt,ls,e,hS.on k hD⟩) id
theorem dF.below(h:dF w F q r M)(hb:Bl w w'):dF w' F q r M:=h.on (D:=fun _=>False) (Kp.of hb) fun _ _ hf=>hf
theorem fs.on(h:fs w G s q l)(k:Kp D w w')(hD:∀i,G i->¬D i):fs w' G s q l:=by obtain⟨h0,v,h1,h2,h3,h4,h5⟩:=h;exact⟨fun i hi=>Nat.lt_of_lt_of_le (h0 i hi) k.size,v,k.has h1 (hD s h3),ax h2 k fun i hi=>hD i (h4 i hi),h3,h4,h5⟩
theorem fs.below(h:fs w G s q l)(hb:Bl w w'):fs w' G s q l:=h.on (D:=fun _=>False) (Kp.of hb) fun _ _ hf=>hf
theorem fs.wide{G':Nat->Prop}(h:fs w G s q l)(hG:∀i,G i->G' i)(hl:∀i,G' i->i<w.heap.size):fs w G' s q l:=by obtain⟨h0,v,h1,h2,h3,h4,h5⟩:=h;exact⟨hl,v,h1,h2,hG s h3,fun i hi=>hG i (h4 i hi),h5⟩
theorem qa{v:Value}{l:List Int}(h:gZ w v l):∃a c,v=.slice a l.length c/\iZ w a l:=by
 rcases qR h with⟨rfl,rfl⟩|⟨g,c,S,rfl,hg,hc,hm⟩
 exact⟨none,0,rfl,fun i hi=>by simp at hi⟩;refine⟨some ⟨g,0,none⟩,c,rfl,fun i hi=>⟨g,rfl,?_⟩⟩;rw[hg.cell i,List.getElem?_toArray,List.getElem?_append_left (by simpa using hi),List.getElem?_map,List.getElem?_eq_getElem hi];rfl
theorem dF.Sa(h:dF w F q r M)(x y:Int)(g:Bool)(hg:mR r M x y g):ak 31 #[.pointer q,i_ x,i_ y] w (.bool g):=by
 rcases h with⟨bt,ls,rfl,hS⟩|⟨rfl,rfl⟩
 exact Fw hS x y g hg
 ·have:g=false:=by
   rcases hg with⟨_,h⟩|⟨h,_⟩|⟨n,m,e,d,_,_,h,_⟩
   exact h;exact absurd (Int.lt_of_le_of_lt h.1 h.2) (Int.lt_irrefl _);simp at h
  subst this;exact J4 x y w
theorem dF.at(h:dF w F q r M)(x:Int):∃e:En,e.ok/\∀w',Bl w w'->ak 29 #[.pointer q,i_ x] w' (.tuple #[.agg (bT e),.bool (decide (0<=x/\x<(M.length:Int)))]):=by
 rcases h with⟨bt,ls,rfl,hS⟩|⟨rfl,rfl⟩
 ·by_cases hx:0<=x/\x<(M.length:Int)
  ·obtain⟨n,rfl⟩:=Int.eq_ofNat_of_zero_le hx.1;have hn:n<M.length:=by omega
   obtain⟨Fa,ab,k1,k2⟩:=hS.parts;refine⟨_,jy k2 (List.getElem?_eq_getElem hn),fun w' hb=>?_⟩;rw[decide_eq_true hx];exact eZ (hS.below hb) (List.getElem?_eq_getElem hn) _ rfl
  refine⟨lg,ee,fun w' hb=>?_⟩;rw[decide_eq_false hx];exact pE (hS.below hb) x hx
 refine⟨lg,ee,fun w' _=>?_⟩;rw[decide_eq_false (fun h=>absurd (Int.lt_of_le_of_lt h.1 h.2) (Int.lt_irrefl _))];exact s_ x w'
end
def iV(l:List Nat)(x:Int):Bool:=decide (0<=x)&&decide (x.toNat∈l)
theorem Bt(l:List Nat)(k:Nat):iV l (k:Int)=decide (k∈l):=by simp[iV]
def pD(r:Ru)(M:List aq)(l:List Nat)(x:Int):Nat:=if 0<=x/\x<(M.length:Int)then spot (Hv r M) l x.toNat else l.length
theorem Pn{r:Ru}{M:List aq}{l:List Nat}(h:lR r M l){x:Int}(hx:iV l x=true):0<=x/\x<(M.length:Int):=by unfold iV at hx;simp only[Bool.and_eq_true,decide_eq_true_eq]at hx;have:=h.lt _ hx.2;omega
section
variable{w:World}{F G:Nat->Prop}{s:Nat}{q:Option Addr}{r:Ru}{M:List aq}{l:List Nat}
theorem tP(hQ:dF w F q r M)(hS:fs w G s q l)(hI:lR r M l)(hM:M.length<=900)(x:Int):ak 96 #[af s,i_ x] w (.tuple #[i_ (pD r M l x:Int),.bool (iV l x)]):=by
 obtain⟨_,v,h1,h2,_⟩:=hS;obtain⟨a,c,rfl,hC⟩:=qa h2;have hf:=hI.few;have ht:=ef r M;by_cases hx:0<=x/\x<(M.length:Int)
 ·obtain⟨n,rfl⟩:=Int.eq_ofNat_of_zero_le hx.1;have hn:n<M.length:=by omega
  have ek:pD r M l (n:Int)=spot (Hv r M) l n:=by unfold pD;rw[if_pos hx,Int.toNat_natCast]
  rw[ek];have hsl:=Tp.yZ (Hv r M) l n;have hz:=jk l;refine sw s q a (zs l) (zs l).length c (n:Int) (spot (Hv r M) l n) (fun i=>!(Hv r M (l.getD i 0) n)) rfl (by omega) (by omega) (h_ fun i hi=>?_) (h_ fun i hi hil=>?_) _ (h_ fun h=>?_) (fun h=>?_) w h1 hC (h_ fun w' i hi hb=>?_);have:=Tp.z8 (H:=Hv r M) (x:=n) (l:=l) (i:=i) (by omega) hi;rw[List.getD_eq_getElem?_getD,List.getElem?_eq_getElem (by omega)];simp[this];have:=Tp.LM ht hI.kp (x:=n) (i:=i) (by omega) hi;rw[List.getD_eq_getElem?_getD,List.getElem?_eq_getElem (by omega)];simp[this]
  ·rw[Bt,lj];have hm:=Tp.Im ht hI.kp (x:=n);have hl:spot (Hv r M) l n<l.length:=by rw[<-hz];exact h
   rw[Bool.eq_iff_iff,beq_iff_eq,decide_eq_true_iff,hm];exact⟨fun e=>⟨hl,by omega⟩,fun⟨_,e⟩=>by omega⟩
  rw[Bt,decide_eq_false_iff_not,Tp.Im ht hI.kp];rintro⟨hl,_⟩;omega
  ·have hil:i<l.length:=by rw[<-hz];exact hi
   rw[lj,Bool.not_not,List.getD_eq_getElem?_getD,List.getElem?_eq_getElem hil];exact(hQ.below hb).Sa _ _ _ (mR.place (hI.lt _ (List.getElem_mem hil)) hn)
 ·have ei:iV l x=false:=by
   cases e:iV l x with
   | false=>rfl
   | true=>exact absurd (Pn hI e) hx
  have ek:pD r M l x=l.length:=by unfold pD;rw[if_neg hx]
  rw[ei,ek];have hz:=jk l;refine sw s q a (zs l) (zs l).length c x l.length (fun i=>false) rfl (by omega) (by omega) (h_ fun i hi=>rfl) (h_ fun i hi hil=>by omega) _ (h_ fun h=>by omega) (fun h=>rfl) w h1 hC (h_ fun w' i hi hb=>?_);have hil:i<l.length:=by rw[<-hz];exact hi
  have hlt:=hI.lt _ (List.getElem_mem hil);rw[lj];exact(hQ.below hb).Sa _ _ _ (.inr (.inl ⟨⟨by omega,by omega⟩,hx,rfl⟩))
def kj(r:Ru)(M:List aq)(l:List Nat)(x:Int):Nat:=if 0<=x/\x<(M.length:Int)then Tp.eM (Hv r M) l x.toNat else l.length
theorem Jb(H:Nat->Nat->Bool)(l:List Nat)(x:Nat):Tp.eM H l x<=l.length:=(List.takeWhile_sublist _).length_le
variable{H:Nat->Nat->Bool}
theorem Gi{x:Nat}:∀{l:List Nat}{i:Nat}(h:i<l.length),i<Tp.eM H l x->H x l[i]=false
 | [],i,h,_=>by simp at h
 | a::l,i,h,hi=>by
  cases e:H x a with
  | true=>simp[Tp.eM,e]at hi
  | false=>
   cases i with
   | zero=>simpa using e
   | succ i=>
    simp[Tp.eM,e]at hi;simpa using Gi (x:=x) (l:=l) (i:=i) (by simpa using h) hi
theorem I5(t:mh H){x:Nat}:∀{l:List Nat},ki H l->∀{i:Nat}(h:i<l.length),Tp.eM H l x<=i->H x l[i]=true
 | [],_,i,h,_=>by simp at h
 | a::l,hs,i,h,hi=>by
  have hc:=List.pairwise_cons.1 hs;cases e:H x a with
  | true=>
   cases i with
   | zero=>simpa using e
   | succ i=>
    have:=hc.1 (l[i]'(by simpa using h)) (List.getElem_mem _);simpa using t.trans _ _ _ e this
  | false=>
   cases i with
   | zero=>simp[Tp.eM,e]at hi
   | succ i=>
    simp[Tp.eM,e]at hi;simpa using I5 t (x:=x) hc.2 (i:=i) (by simpa using h) hi
theorem mW{x:Int}:kj r M l x<=l.length:=by unfold kj;split;exact Jb _ _ _;exact Nat.le_refl _
theorem Ml(hQ:dF w F q r M)(hS:fs w G s q l)(hI:lR r M l)(hM:M.length<=900)(x:Int):ak 99 #[af s,i_ x] w (i_ (kj r M l x:Int)):=by
 obtain⟨_,v,h1,h2,_⟩:=hS;obtain⟨a,c,rfl,hC⟩:=qa h2;have hf:=hI.few;have ht:=ef r M;have hz:=jk l;by_cases hx:0<=x/\x<(M.length:Int)
 ·obtain⟨n,rfl⟩:=Int.eq_ofNat_of_zero_le hx.1;have hn:n<M.length:=by omega
  have ek:kj r M l (n:Int)=Tp.eM (Hv r M) l n:=by unfold kj;rw[if_pos hx,Int.toNat_natCast]
  rw[ek];have hsl:=Jb (Hv r M) l n;refine yr s q a (zs l) (zs l).length c (n:Int) (Tp.eM (Hv r M) l n) (fun i=>Hv r M n (l.getD i 0)) rfl (by omega) (by omega) (h_ fun i hi=>?_) (h_ fun i hi hil=>?_) w h1 hC (h_ fun w' i hi hb=>?_);have:=Gi (H:=Hv r M) (x:=n) (l:=l) (i:=i) (by omega) hi;rw[List.getD_eq_getElem?_getD,List.getElem?_eq_getElem (by omega)];exact this;have:=I5 ht (x:=n) hI.kp (i:=i) (by omega) hi;rw[List.getD_eq_getElem?_getD,List.getElem?_eq_getElem (by omega)];exact this
  ·have hil:i<l.length:=by rw[<-hz];exact hi
   rw[lj,List.getD_eq_getElem?_getD,List.getElem?_eq_getElem hil];exact(hQ.below hb).Sa _ _ _ (mR.place hn (hI.lt _ (List.getElem_mem hil)))
 ·have ek:kj r M l x=l.length:=by unfold kj;rw[if_neg hx]
  rw[ek];refine yr s q a (zs l) (zs l).length c x l.length (fun i=>false) rfl (by omega) (by omega) (h_ fun i hi=>rfl) (h_ fun i hi hil=>by omega) w h1 hC (h_ fun w' i hi hb=>?_);exact(hQ.below hb).Sa _ _ _ (.inl ⟨hx,rfl⟩)
theorem Bz(hS:fs w G s q l)(hl:l.length<=1000):aG 61 #[af s] w fun e w'=>∃v',e=.returned v'/\gZ w' v' (zs l)/\(∀k,v'.ownBlock=some k->w.heap.size<=k)/\Bl w w':=by obtain⟨_,v,h1,h2,_⟩:=hS;obtain⟨a,c,e,_⟩:=qa h2;exact Ky s q v ⟨a,_,c,e⟩ (fun w w' v'=>gZ w' v' (zs l)/\(∀k,v'.ownBlock=some k->w.heap.size<=k)/\Bl w w') w h1 (h_ (GA h2 (by rw[jk];exact hl)))
theorem tK(q:Option Addr)(w:World):aG 56 #[.pointer q] w fun e w'=>∃s,e=.returned (af s)/\w.heap.size<=s/\fs w' (fun i=>i=s) s q []/\Bl w w':=by refine(Da q w).mono ?_;rintro e w' ⟨rfl,rfl⟩;refine⟨_,rfl,Nat.le_refl _,⟨fun i hi=>?_,.slice none 0 0,Has.new _ _,zc _,rfl,fun i hi=>?_,fun i hi=>?_⟩,aY⟩;rw[hi];simp;cases hi;cases hi
end
def iI(r:Ru)(M:List aq)(l:List Nat)(x:Int):List Nat:=if iV l x=true then l else if 0<=x/\x<(M.length:Int)then ins (Hv r M) l x.toNat else l
section
variable{r:Ru}{M:List aq}{l:List Nat}
theorem y3(h:lR r M l)(x:Int):lR r M (iI r M l x):=by
 unfold iI;by_cases h1:iV l x=true;rw[if_pos h1];exact h
 ·rw[if_neg h1];by_cases h2:0<=x/\x<(M.length:Int)
  ·rw[if_pos h2];have hx:x.toNat∉l:=fun hc=>h1 (by unfold iV;simp[h2.1,hc])
   refine⟨h.kp.ins (ef r M) hx,fun y hy=>?_⟩;rcases Tp.xZ.1 hy with rfl|hy
   omega;exact h.lt y hy
  rw[if_neg h2];exact h
theorem I2(x:Int)(y:Nat):y∈iI r M l x↔y∈l\/(y:Int)=x/\y<M.length:=by unfold iI;by_cases h1:iV l x=true;rw[if_pos h1];refine⟨.inl,fun hy=>hy.elim id fun hy=>?_⟩;rw[<-hy.1,Bt]at h1;exact of_decide_eq_true h1;rw[if_neg h1];by_cases h2:0<=x/\x<(M.length:Int);rw[if_pos h2,Tp.xZ];constructor;rintro(hy|hy);exact .inr ⟨by omega,by omega⟩;exact .inl hy;rintro(hy|hy);exact .inr hy;exact .inl (by omega);rw[if_neg h2];exact⟨.inl,fun hy=>hy.elim id fun hy=>absurd (by omega) h2⟩
end
section
variable{w:World}{F G:Nat->Prop}{s:Nat}{q:Option Addr}{r:Ru}{M:List aq}{l:List Nat}
theorem zT{w w1 w2:World}(h:w1.heap.size<=w2.heap.size):∀i,iQ G w w1 i->iQ G w w2 i:=fun _ hi=>hi.imp id fun hi=>⟨hi.1,by omega⟩
def uZ(w:World)(G:Nat->Prop)(s:Nat)(q:Option Addr)(r:Ru)(M:List aq)(wr:World)(m:List Nat):Prop:=fs wr (iQ G w wr) s q m/\lR r M m/\Kp G w wr
theorem uZ.below{wr wr':World}{m:List Nat}(hG:∀i,G i->i<w.heap.size)(h:uZ w G s q r M wr m)(hb:Bl wr wr'):uZ w G s q r M wr' m:=by obtain⟨h1,h2,h3⟩:=h;have hs:=hb.size;have hs0:=h3.size;refine⟨(h1.below hb).wide (zT hs) fun i hi=>hi.elim (fun hi=>by have:=hG i hi;omega) (fun hi=>hi.2),h2,h3.trans (Kp.of (F:=fun _=>False) hb) fun _ hf _=>hf.elim⟩
theorem uw(hG:∀i,G i->i<w.heap.size){w1 w2 w3:World}{m m':List Nat}{v v':Value}(h:uZ w G s q r M w1 m)(hv:Has w1 s (lS q v) 129)(hb:Bl w1 w2)(hP:GI w2 w3 v (zs m') v')(hI:lR r M m'):xR s (uZ w G s q r M) m' (.returned v') w3:=by
 obtain⟨⟨h0,v0,h1,h2,h3,h4,h5⟩,_,hK⟩:=h
 obtain rfl:v0=v:=by
  have e:=(ou h1).symm.trans (ou hv);exact Option.some.inj e
 have hs2:=cg hb hv (Has.lt hv);have hl1:=Has.lt hv;obtain⟨hr,ho,hk⟩:=hP;have hs3:=hk.has hs2 (fun e=>h5 s e rfl);obtain⟨ad,c,rfl,_⟩:=qa hr;have ac8:=hb.size;have ac9:=hk.size;have ad1:=hK.size;have ne:∀i,(Value.slice ad (zs m').length c).ownBlock=some i->i≠s:=fun i hi=>ho.elim (fun e=>h5 i (by rw[<-e];exact hi)) (fun⟨g,e,hg⟩=>by rw[hi]at e;cases e;omega)
 have aa2:(w3.setCell ⟨s,1,none⟩ (.slice ad (zs m').length c)).heap.size=w3.heap.size:=by simp[World.setCell]
 have k4:Kp (fun i=>i=s) w3 (w3.setCell ⟨s,1,none⟩ (.slice ad (zs m').length c)):=Kp.gb (fJ w3 s 1 _) (fun k hk=>(Option.some.inj hk).symm);refine⟨ad,_,c,v0,rfl,ou hs3,Has.free hs3 1,⟨fun i hi=>?_,_,rK hs3 _,ax hr k4 ne,zT (by omega) s h3,fun i hi=>?_,ne⟩,hI,?_⟩;exact hi.elim (fun hi=>by have:=hG i hi;omega) (fun hi=>hi.2)
 ·rcases ho with e|⟨g,e,hg⟩
  exact zT (by omega) i (h4 i (by rw[<-e];exact hi));rw[hi]at e;cases e;exact .inr ⟨by omega,by rw[aa2];exact(cK hr hi).1⟩
 ·refine((hK.trans (Kp.of (F:=fun _=>False) hb) (fun _ hf _=>hf.elim)).trans hk fun i hi hlt=>?_).trans k4 fun i hi hlt=>?_
  exact(h4 i hi).elim id fun hh=>by omega
  subst hi;exact h3.elim id fun hh=>by omega
theorem Cu(hS:fs w G s q l):∃ad c,Has w s (lS q (.slice ad l.length c)) 129/\gZ w (.slice ad l.length c) (zs l):=by obtain⟨_,v,h1,h2,_⟩:=hS;obtain⟨a,c,rfl,_⟩:=qa h2;rw[jk]at h1 h2;exact⟨a,c,h1,h2⟩
theorem vi(hS:fs w G s q l){v:Value}(hv:Has w s (lS q v) 129):∀i,v.ownBlock=some i->i<w.heap.size:=by obtain⟨h0,v0,h1,h2,_,h4,_⟩:=hS;obtain rfl:v0=v:=Option.some.inj ((ou h1).symm.trans (ou hv));exact fun i hi=>h0 i (h4 i hi)
def te(w:World)(G:Nat->Prop)(a:Option Addr)(ps:List Int):Prop:=0<ps.length->∃ab ao,a=some ⟨ab,ao,none⟩/\ab<w.heap.size/\¬G ab/\∀i (hi:i<ps.length),w.cell? ⟨ab,ao+i,none⟩=some (i_ ps[i])
theorem te.below{w w':World}{a:Option Addr}{ps:List Int}{G:Nat->Prop}(h:te w (fun _=>False) a ps)(hb:Bl w w')(hG:∀i,G i->w.heap.size<=i):te w' G a ps:=fun h0=>by
 obtain⟨ab,ao,e,hlt,_,hc⟩:=h h0;exact⟨ab,ao,e,Nat.lt_of_lt_of_le hlt hb.size,fun hg=>absurd (hG ab hg) (by omega),fun i hi=>(hb.cell (p:=⟨ab,ao+i,none⟩) hlt).trans (hc i hi)⟩
theorem v_(l:List Nat)(k:Nat):(zs l).take k=zs (l.take k):=by simp[zs]
theorem va(l:List Nat)(k:Nat):(zs l).drop k=zs (l.drop k):=by simp[zs]
theorem sf(a b:List Nat):zs (a++b)=zs a++zs b:=by simp[zs]
theorem lN(hQ:dF w F q r M)(hS:fs w G s q l)(hFG:∀i,F i->¬G i)(hI:lR r M l)(hM:M.length<=900)(a:Option Addr)(n c:Nat)(ps:List Int)(hn:n=ps.length)(hn2:n<=1000)(hA:te w G a ps):aG 59 #[af s,.slice a n c] w fun e w'=>e=.returned (i_ (((ps.foldl (iI r M) l).length:Int)-(l.length:Int)))/\uZ w G s q r M w' (ps.foldl (iI r M) l):=by
 have hG:=hS.1;refine zS s a n c ps (h_ hn) hn2 (uZ w G s q r M) (iI r M) l w (h_ ⟨hS.wide (fun i hi=>.inl hi) (fun i hi=>hi.elim (hG i) (fun hi=>hi.2)),hI,Kp.refl _ _⟩) (h_ fun wr wr' m h hb=>h.below hG hb) (h_ fun wr m h=>?_) (h_ fun wr m h hn0=>?_) (h_ fun wr m x h=>?_);obtain⟨ad,c,h1,_⟩:=Cu h.1;exact⟨by have:=h.2.1.few;omega,ad,c,ou h1⟩;obtain⟨ab,ao,e,hlt,hng,hc⟩:=hA (by omega);exact⟨ab,ao,e,fun i hi=>(World.cell?_of_block (h.2.2.block ab hlt hng)).trans (hc i hi)⟩
 ·have hQ':=hQ.on h.2.2 hFG;obtain⟨e,he,hat⟩:=hQ'.at x;refine⟨pD r M m x,iV m x,decide (0<=x/\x<(M.length:Int)),fun w' hb=>tP (hQ'.below hb) (h.1.below hb) h.2.1 hM x,fun w' hb=>?_,fun hh=>?_,fun h1 h2 w' hb=>?_⟩;obtain⟨ad,c,h1,_⟩:=Cu (h.1.below hb);exact I4 s q _ x e he _ w' h1 (h_ fun w'' hb'=>hat w'' (ah hb hb'))
  ·unfold iI;rcases hh with hh|hh
   rw[if_pos hh]
   ·by_cases h1:iV m x=true;rw[if_pos h1];rw[if_neg h1,if_neg (of_decide_eq_false hh)]
  ·have h':=h.below hG hb;obtain⟨ad,c,g1,g2⟩:=Cu h'.1;have h2':=of_decide_eq_true h2;refine⟨ad,c,ou g1,fun w2 vb hb2 rn hx=>?_⟩;have ek:pD r M m x=spot (Hv r M) m x.toNat:=by unfold pD;rw[if_pos h2']
   have hle:=Tp.yZ (Hv r M) m x.toNat;have g3:gZ w2 (.slice ad m.length c) (zs m):=ax g2 (Kp.of (F:=fun _=>False) hb2) (fun _ _ h=>h);have hf:=h.2.1.few;have hz:=jk m;refine(M5 g3 (pD r M m x) (by rw[hz,ek];exact hle) (by omega) vb x hx (fun k hk=>by have:=vi h'.1 g1 k hk;omega)).mono ?_;rintro e w3 ⟨v',rfl,hP⟩;refine uw hG h' g1 hb2 ?_ (y3 h.2.1 x)
   have ep:zs (iI r M m x)=(zs m).take (pD r M m x)++x::(zs m).drop (pD r M m x):=by
    unfold iI;rw[if_neg (by rw[h1];simp),if_pos h2',ek,v_,va];unfold ins;rw[sf];congr 1;show((x.toNat:Nat):Int)::_=_;rw[Int.toNat_of_nonneg h2'.1];rfl
   rw[ep];exact hP
theorem zl(a:Option Addr)(n c k:Nat)(hk:k<=n)(hc:n<=c)(hn:a=none->n=0/\c=0)(hp:∀x,a=some x->∃g,x=⟨g,0,none⟩)(w:World):(Instr.sliceAt 49 (.slice a n c) none (some (i_ k)) none).run Tryz.prog w=.ok (.slice a k c) w:=by
 cases a with
 | none=>
  obtain⟨rfl,rfl⟩:=hn rfl;obtain rfl:k=0:=by omega
  kernel_rfl
 | some x=>
  obtain⟨g,rfl⟩:=hp x rfl;go_simp
  intro h;omega
theorem wK(hQ:dF w F q r M)(hS:fs w G s q l)(hI:lR r M l)(hM:M.length<=900)(x:Int):aG 60 #[af s,i_ x] w fun e w'=>e=.returned (i_ ((l.length:Int)-(kj r M l x:Int)))/\uZ w G s q r M w' (l.take (kj r M l x)):=by
 have hf:=hI.few;have hle:=mW (r:=r) (M:=M) (l:=l) (x:=x);obtain⟨h0,v,h1,h2,h3,h4,h5⟩:=hS;have hS':fs w G s q l:=⟨h0,v,h1,h2,h3,h4,h5⟩;have hI':lR r M (l.take (kj r M l x)):=⟨hI.kp.sub (List.take_sublist _ _),fun y hy=>hI.lt y (List.mem_of_mem_take hy)⟩;have hz:=jk l;rcases qR h2 with⟨rfl,hl0⟩|⟨g,c,S,rfl,hg,hc,hm⟩
 ·have hl:l=[]:=List.map_eq_nil_iff.1 hl0;subst hl;refine(qC s q none none 0 0 0 (by decide) (Nat.le_refl _) x w h1 (h_ fun w' hb=>?_) (h_ fun w'=>zl none 0 0 0 (Nat.le_refl _) (Nat.le_refl _) (fun _=>⟨rfl,rfl⟩) (fun _ h=>by cases h) w')).mono ?_
  ·have:=Ml (hQ.below hb) (hS'.below hb) hI hM x;have e:kj r M [] x=0:=by have:=mW (r:=r) (M:=M) (l:=[]) (x:=x);simpa using this
   rwa[e]at this
  ·rintro e w' ⟨rfl,hs',hk⟩;have e0:kj r M [] x=0:=by have:=mW (r:=r) (M:=M) (l:=[]) (x:=x);simpa using this
   refine⟨by rw[e0];rfl,⟨fun i hi=>hi.elim (fun hi=>Nat.lt_of_lt_of_le (h0 i hi) hk.size) (fun hi=>hi.2),_,hs',by rw[List.take_nil];exact zc _,.inl h3,fun i hi=>(by cases hi),fun i hi=>(by cases hi)⟩,hI',hk.mono fun i hi _=>hi▸h3⟩
 ·rw[hz]at h1;refine(qC s q (aT g) (aT g) l.length c (kj r M l x) (by omega) hle x w h1 (h_ fun w' hb=>Ml (hQ.below hb) (hS'.below hb) hI hM x) (h_ fun w'=>zl _ _ _ _ hle (by omega) (fun h=>by cases h) (fun y h=>⟨g,(Option.some.inj h).symm⟩) w')).mono ?_;rintro e w' ⟨rfl,hs',hk⟩;have hgs:g≠s:=h5 g rfl;have hg':Has w' g ((zs l).map (Value.int .i64)++S).toArray 3:=hk.has hg hgs;refine⟨rfl,⟨fun i hi=>hi.elim (fun hi=>Nat.lt_of_lt_of_le (h0 i hi) hk.size) (fun hi=>hi.2),_,hs',oP (S:=(zs (l.drop (kj r M l x))).map (Value.int .i64)++S) ?_ ?_ hm ?_,.inl h3,fun i hi=>.inl (h4 i hi),fun i hi=>h5 i hi⟩,hI',hk.mono fun i hi _=>hi▸h3⟩
  ·have e:(zs l).map (Value.int .i64)=(zs (l.take (kj r M l x))).map (Value.int .i64)++(zs (l.drop (kj r M l x))).map (Value.int .i64):=by rw[<-List.map_append,<-sf,List.take_append_drop]
   rw[e,List.append_assoc]at hg';exact hg'
  rw[List.length_append,List.length_map,jk,jk,List.length_take,List.length_drop];omega;rw[jk,List.length_take];omega
end
end An
end Go.Proofs.YtkbjaadjnbgfbaaGreatDoor
namespace Go.Proofs.YtkbjaadjnbgfbaaGreatDoor
open Go.RowKit
namespace An
open Mem Sc NN.Si
open Ar (aq Ru aB Ok cp Row cB Up dK eJ)
open Mk (cF gk aM pb verdict a_ bc dP word bF)
open Tp (ki mh ins spot)
def kf(w:World)(q:Option Addr)(r:Ru)(M:List aq)(s:Nat)(wr:World)(l:List Nat):Prop:=∃G,(∀i,G i->w.heap.size<=i)/\fs wr G s q l/\lR r M l/\Bl w wr
section
variable{w wr w':World}{q:Option Addr}{r:Ru}{M:List aq}{s:Nat}{l:List Nat}
theorem kf.S9(h:kf w q r M s wr l):Bl w wr:=by obtain⟨_,_,_,_,h⟩:=h;exact h
theorem kf.few(h:kf w q r M s wr l):l.length<=M.length:=by obtain⟨_,_,_,h,_⟩:=h;exact h.few
theorem kf.below(h:kf w q r M s wr l)(hb:Bl wr w'):kf w q r M s w' l:=by obtain⟨G,h1,h2,h3,h4⟩:=h;exact⟨G,h1,h2.below hb,h3,ah h4 hb⟩
theorem kf.of{w2:World}{G:Nat->Prop}{l':List Nat}(hG:∀i,G i->w.heap.size<=i)(hb:Bl w w2)(h:uZ w2 G s q r M w' l'):kf w q r M s w' l':=⟨iQ G w2 w',fun i hi=>hi.elim (hG i) (fun hi=>Nat.le_trans hb.size hi.1),h.1,h.2.1,hb.trans (h.2.2.below hG hb.size)⟩
theorem kf.put(h:kf w q r M s wr l)(KQ:jR w fun w'=>∃F,dF w' F q r M/\∀i,F i->i<w.heap.size)(hM:M.length<=900){g:Nat}{x z:Int}(hz:z=((iI r M l x).length:Int)-(l.length:Int))(hb:Bl wr w')(hg:wr.heap.size<=g)(hx:Has w' g #[i_ x] 3):aG 59 #[af s,.slice (aT g) 1 1] w' fun e w''=>e=.returned (i_ z)/\kf w q r M s w'' (iI r M l x):=by
 obtain⟨G,h1,h2,h3,h4⟩:=h;have h5:=ah h4 hb;obtain⟨F,hQ,hF⟩:=KQ.out _ h5;subst hz;refine(lN (ps:=[x]) hQ (h2.below hb) (fun i hi hg=>by have:=hF i hi;have:=h1 i hg;omega) h3 hM (aT g) 1 1 rfl (by decide) (fun _=>⟨g,0,rfl,hx.lt,fun hG=>by have:=h2.1 g hG;omega,fun i hi=>?_⟩)).mono fun e w'' hh=>⟨hh.1,kf.of h1 h5 hh.2⟩
 obtain rfl:i=0:=by simp at hi;omega
 rw[Has.cell hx];rfl
theorem kf.trim(h:kf w q r M s wr l)(KQ:jR w fun w'=>∃F,dF w' F q r M/\∀i,F i->i<w.heap.size)(hM:M.length<=900)(x:Int):∃z:Int,aG 60 #[af s,i_ x] wr fun e w''=>e=.returned (i_ z)/\kf w q r M s w'' (l.take (kj r M l x)):=by obtain⟨G,h1,h2,h3,h4⟩:=h;obtain⟨F,hQ,hF⟩:=KQ.out _ h4;exact⟨_,(wK hQ h2 h3 hM x).mono fun e w'' hh=>⟨hh.1,kf.of h1 h4 hh.2⟩⟩
def nZ(w w':World)(v:Value)(l:List Int):Prop:=gZ w' v l/\∀k,v.ownBlock=some k->w.heap.size<=k
theorem kf.all(h:kf w q r M s wr l)(hM:M.length<=900):aG 61 #[af s] wr fun e w''=>∃v,e=.returned v/\nZ w w'' v (zs l)/\Bl w w'':=by have hf:=h.few;obtain⟨G,h1,h2,h3,h4⟩:=h;refine(Bz h2 (by omega)).mono ?_;rintro e w'' ⟨v,rfl,hv,ho,hb⟩;exact⟨v,rfl,⟨hv,fun k hk=>Nat.le_trans h4.size (ho k hk)⟩,ah h4 hb⟩
end
def lF(r:Ru)(M:List aq)(V:Int->Bool):Nat->List Nat
 | 0=>[]
 | k+1=>if V (k:Int)=true then iI r M (lF r M V k) (k:Int)else lF r M V k
def lQ(r:Ru)(M:List aq)(V:Int->Bool)(n:Nat)(tip:Int):List Nat:=if V tip=true then(lF r M V n).take (kj r M (lF r M V n) tip)else lF r M V n
variable{w w0:World}
theorem IX(cq tq mq:Option Addr)(tip:Int)(n:Nat)(r:Ru)(M:List aq)(hn:n=M.length)(hM:M.length<=900)(V:Int->Bool)(KT:aQ w 25 #[.pointer cq] (.pointer tq))(KM:aQ w 26 #[.pointer cq] (.pointer mq))(KP:aQ w 18 #[.pointer cq] (i_ tip))(KL:aQ w 57 #[.pointer tq] (i_ n))(KV:Hid (∀w' (z:Int),Bl w w'->ak 58 #[.pointer mq,i_ z] w' (.bool (V z))))(KQ:jR w fun w'=>∃F,dF w' F tq r M/\∀i,F i->i<w.heap.size):aG 24 #[.pointer cq] w fun e w'=>∃v,e=.returned v/\nZ w w' v (zs (lQ r M V n tip))/\Bl w w':=by
 have hB:=Below.refl w.heap.size w;have HM:=h_ hM;have TW:n<=900:=by rw[hn];exact hM
 clear hn hM;go_enter Tryz.func24,Tryz.ntmps24;go_wp2_with fail
 refine au (KT.out _ hB) fun v0 hb=>?_;replace hB:=ah hB hb;clear hb;go_wp2_with fail
 refine au (KM.out _ hB) fun v01 hb=>?_;replace hB:=ah hB hb;clear hb;go_wp2_with fail
 refine au (KP.out _ hB) fun v1 hb=>?_;replace hB:=ah hB hb;clear hb;go_wp2_with fail
 refine(tK tq v1).mono ?_;rintro e v2 ⟨s,rfl,hs,hS,hb⟩;have hH:kf w tq r M s v2 []:=⟨_,fun i hi=>by subst hi;exact Nat.le_trans hB.size hs,hS,lR.nil r M,ah hB hb⟩;clear hB hb hS hs KT KM KP;go_wp2_with fail
 refine au (KL.out _ hH.S9) fun v3 hb=>?_;replace hH:=hH.below hb;clear hb;go_wp2_with fail
 go_loopw [18] (fun u wr=>∃k:Nat,k<=n/\u=i_ k/\kf w tq r M s wr (lF r M V k)) (fun u _=>n-(intOf u).toNat)
 case atStart=>exact⟨0,Nat.zero_le _,rfl,hH⟩
 case round=>
  clear hH KL;obtain⟨k,hk,rfl,hH⟩:=hrel;rename World=>wq
  by_cases hlt:k<n
  ·obtain⟨b,hb⟩:∃b,V (k:Int)=b:=⟨_,rfl⟩;have hV:=KV.out _ (k:Int) hH.S9;rw[hb]at hV;have HV:=h_ hV;have HB:=h_ hb;clear hb hV;go_wp2_with fail
   refine HV.out.mono ?_;rintro e w5 ⟨rfl,hb⟩;replace hH:=hH.below hb;clear hb HV;cases b
   ·(go_wp2_with fail);go_roundw
    case rel=>exact⟨k+1,by omega,by go_num,by unfold lF;rw[if_neg (by rw[HB.out];simp)];exact hH⟩
    case measure=>simp[intOf];omega
   ·obtain⟨z,hz⟩:∃z,z=((iI r M (lF r M V k) (k:Int)).length:Int)-((lF r M V k).length:Int):=⟨_,rfl⟩;have HZ:=h_ hz;clear hz;(go_wp2_with fail);have hb:Bl w5 (w5.alloc (.cells #[i_ k] 3)):=aY;have hA:=Has.new (w:=w5) #[i_ k] 3;have hP:=hH.put KQ HM.out HZ.out hb (Nat.le_refl _) hA;generalize w5.alloc (.cells #[i_ k] 3)=w6 at*;clear hb hA HZ;refine hP.mono ?_;rintro e w7 ⟨rfl,hC⟩;clear hH hP;(go_wp2_with fail);go_roundw
    case rel=>exact⟨k+1,by omega,by go_num,by unfold lF;rw[if_pos HB.out];exact hC⟩
    case measure=>simp[intOf];omega
  ·obtain rfl:k=n:=by omega
   obtain⟨b,hb⟩:∃b,V tip=b:=⟨_,rfl⟩;have hV:=KV.out _ tip hH.S9;rw[hb]at hV;have HV:=h_ hV;have HB:=h_ hb;clear hb hV;go_wp2_with fail
   refine HV.out.mono ?_;rintro e w5 ⟨rfl,hb⟩;replace hH:=hH.below hb;clear hb HV;cases b
   ·have hA:=hH.all HM.out;have e0:lQ r M V k tip=lF r M V k:=(by unfold lQ;rw[if_neg (by rw[HB.out];simp)]);rw[<-e0]at hA;have HA:=h_ hA;clear hH hA e0;(go_wp2_with fail);refine HA.out.mono ?_;rintro e w6 ⟨v,rfl,hv,hb⟩;have HR:=h_ hv;have HB2:=h_ hb;clear hv hb HA;(go_wp2_with fail);go_ret;exact⟨v,rfl,HR.out,HB2.out⟩
   ·obtain⟨z,hz⟩:=hH.trim KQ HM.out tip;have HZ:=h_ hz;clear hz hH;(go_wp2_with fail);refine HZ.out.mono ?_;rintro e w6 ⟨rfl,hH⟩;have hA:=hH.all HM.out;have e0:lQ r M V k tip=(lF r M V k).take (kj r M (lF r M V k) tip):=(by unfold lQ;rw[if_pos HB.out]);rw[<-e0]at hA;have HA:=h_ hA;clear hH hA e0 HZ;(go_wp2_with fail);refine HA.out.mono ?_;rintro e w7 ⟨v,rfl,hv,hb⟩;have HR:=h_ hv;have HB2:=h_ hb;clear hv hb HA;(go_wp2_with fail);go_ret;exact⟨v,rfl,HR.out,HB2.out⟩
theorem pQ(r:Ru)(M:List aq)(V:Int->Bool):∀k,k<=M.length->lR r M (lF r M V k)/\∀y,y∈lF r M V k↔y<k/\V (y:Int)=true
 | 0,_=>⟨lR.nil r M,fun y=>⟨fun h=>(by simp[lF]at h),fun h=>absurd h.1 (Nat.not_lt_zero _)⟩⟩
 | k+1,hk=>by
  obtain⟨h1,h2⟩:=pQ r M V k (by omega);unfold lF;by_cases hv:V (k:Int)=true;rw[if_pos hv];refine⟨y3 h1 _,fun y=>?_⟩;rw[I2,h2];constructor;rintro(h|⟨h,_⟩);exact⟨by omega,h.2⟩;obtain rfl:y=k:=(by omega);exact⟨by omega,hv⟩;rintro⟨h,h3⟩;by_cases e:y=k;exact .inr ⟨by rw[e],by omega⟩;exact .inl ⟨by omega,h3⟩;rw[if_neg hv];refine⟨h1,fun y=>?_⟩;rw[h2];constructor;rintro⟨h,h3⟩;exact⟨by omega,h3⟩;rintro⟨h,h3⟩;refine⟨?_,h3⟩;by_cases e:y=k;rw[e]at h3;exact absurd h3 hv;omega
def PO(r:Ru)(M:List aq)(V:Int->Bool)(tip y:Nat):Bool:=V (y:Int)&&!(V (tip:Int)&&Hv r M tip y)
variable{r:Ru}{M Mt Mr:List aq}{V:Int->Bool}{tip bb cb mr bt mb mg bm rb:Nat}
theorem qA(ht:tip<M.length):ki (Hv r M) (lQ r M V M.length tip)/\∀y,y∈lQ r M V M.length tip↔y<M.length/\PO r M V tip y=true:=by
 obtain⟨h1,h2⟩:=pQ r M V M.length (Nat.le_refl _);unfold lQ PO;cases hv:V (tip:Int)with
 | false=>
  rw[if_neg (by simp)];refine⟨h1.kp,fun y=>?_⟩;rw[h2];simp
 | true=>
  rw[if_pos rfl]
  have e:kj r M (lF r M V M.length) (tip:Int)=Tp.eM (Hv r M) (lF r M V M.length) tip:=by
   unfold kj;rw[if_pos (by omega),Int.toNat_natCast]
  rw[e,<-Tp.GS (ef r M) h1.kp];refine⟨h1.kp.sub List.filter_sublist,fun y=>?_⟩;rw[List.mem_filter,h2];simp[and_assoc]
variable{x:yS}{Sp Sr:Mk.St}{La l:List Int}
theorem JN(h:aS w0 w r bb cb mr bt mb mg bm rb x Mt Mr Sp Sr tip La)(hg:Gd r Mt Sp):aG 24 #[af cb] w fun e w'=>∃v,e=.returned v/\nZ w w' v (zs (lQ r Mt (aM Mt Sp) Mt.length tip))/\Bl w w':=by have Tj:=hg.2.1;refine IX (w:=w) (aT cb) (aT bt) (aT mb) tip Mt.length r Mt rfl (by omega) (aM Mt Sp) (Al h) (pj h) (h_ fun w' hb=>ij (h.below hb).c2) (h_ fun w' hb=>?_) (h_ fun w' z hb=>((h.below hb).rd hg.1 (Nat.le_trans Tj (by decide))).valid z) (h_ fun w' hb=>?_);obtain⟨F,ls,h1,_⟩:=(h.below hb).tr;exact zN h1;obtain⟨F,ls,h1,_⟩:=h.tr;exact⟨F,.inl ⟨bt,ls,rfl,h1.below hb⟩,h1.1⟩
theorem Jf(h:aS w0 w r bb cb mr bt mb mg bm rb x Mt Mr Sp Sr tip La)(hg:Gd r Mt Sp):aG 24 #[af cb] w fun e w'=>∃v,e=.returned v/\jf w' v (zs (lQ r Mt (aM Mt Sp) Mt.length tip))/\Bl w w':=(JN h hg).mono fun _ _ ⟨v,h1,h2,h3⟩=>⟨v,h1,jf.of h2.1 rfl,h3⟩
theorem tF(ht:tip<M.length):(zs (lQ r M V M.length tip)).length<=M.length:=by obtain⟨h1,h2⟩:=qA (V:=V) (r:=r) ht;rw[jk];exact Bo (h1.nodup (ef r M)) fun x hx=>((h2 x).1 hx).1
theorem Ho(ht:tip<M.length)(hv:V (tip:Int)=true):0<(zs (lQ r M V M.length tip)).length:=by rw[jk];refine List.length_pos_of_mem (a:=tip) (((qA (V:=V) (r:=r) ht).2 tip).2 ⟨ht,?_⟩);unfold PO;rw[hv,(ef r M).Xi];rfl
theorem nZ.on{w1 w2:World}{v:Value}(h:nZ w w1 v l)(hb:Bl w1 w2):nZ w w2 v l:=⟨ax h.1 (Kp.of (F:=fun _=>False) hb) fun _ _ hf=>hf,h.2⟩
theorem jf.made{g c:Nat}{T:List Value}(h:Has w g (l.map (Value.int .i64)++T).toArray 3):jf w (.slice (aT g) l.length c) l:=by refine⟨_,c,rfl,fun _=>⟨g,rfl,fun w' hb k z hk=>(hb.cell (p:=⟨g,k,none⟩) h.lt).trans ?_⟩⟩;rw[Has.cell h k,List.getElem?_toArray,List.getElem?_append_left (by rw[List.length_map];exact(List.getElem?_eq_some_iff.1 hk).1),List.getElem?_map,hk];rfl
end An
namespace An
open Mem Sc NN.Si
open Ar (aq Ru aB Ok cp)
section
variable{ρ:Operand->Value}{o:Oper}{w:World}
end
open Ar (cB eJ dK Row Up)
open Mk (dP gk cF a_ bF pb bc aM verdict word)
