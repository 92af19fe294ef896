import Derived.Test.YtbgjiplfaolpjaaGreatDoorUShelfC
import Derived.Test.YtbgjiplfaolpjaaGreatDoorUBunQ35
import Derived.Lib.RowBridge
set_option maxRecDepth 100000
set_option maxHeartbeats 4000000
namespace Go.Proofs.YtbgjiplfaolpjaaGreatDoor.An
open Go.RowKit Mem Sc
def RowI (w:World) (v:Value) (l:List Int):Prop:=w.ownsRow 0 3 1 v l.length (l.map (Value.int .i64))
theorem qdt_ {w:World} {v:Value} {l:List Int} (h:RowI w v l):(v = .slice none 0 0/\l=[])\/∃ g c S,v = .slice (some ⟨g,0,none⟩) l.length c/\Has w g (l.map (Value.int .i64) ++ S).toArray 3/\c=l.length+S.length/\c<=maxLen:=by
 obtain ⟨_,⟨rfl,h0⟩|⟨g,c,cur,rfl,_,hg,h1,h2,h3,h4⟩⟩:=h
 ·exact .inl ⟨rfl,List.eq_nil_of_length_eq_zero h0⟩
 ·rw[Nat.mul_one] at h3 h4
  refine .inr ⟨g,c,cur.toList.drop l.length,rfl,?_,?_,h2⟩
  ·rw[<-h4,List.take_append_drop]
   exact hg
  ·have h5:cur.toList.length=cur.size:=Array.length_toList
   rw[List.length_drop];omega
theorem qef_ {w:World} {g c n:Nat} {l:List Int} {S:List Value} (h:Has w g (l.map (Value.int .i64) ++ S).toArray 3) (hc:c=l.length+S.length) (hm:c<=maxLen) (hn:n=l.length):RowI w (.slice (some ⟨g,0,none⟩) n c) l:=by
 subst hn
 exact ⟨by simp,.inr ⟨g,c,_,rfl,Nat.zero_le _,h,by omega,hm,by simp;omega,by simp⟩⟩
theorem qca_ (w:World) (b o:Nat) (vs:List Value):Kp (fun k=>k=b) w (w.setCells b o vs):=by
 obtain ⟨h1,h2,h3,h4⟩:=qfb_ b vs o w
 exact ⟨h1,h2,h3,by rw[h4];exact Nat.le_refl _,fun k _ hn=>qei_ b k hn vs o w⟩
theorem qtp_ (F:Nat->Prop) (w:World):Kp F w w.drew:=⟨rfl,rfl,rfl,Nat.le_refl _,fun _ _ _=>rfl⟩
theorem qaeq_ (F:Nat->Prop) (w:World) (q:Nat):Kp F w (w.drewN q):=⟨rfl,rfl,rfl,Nat.le_refl _,fun _ _ _=>rfl⟩
theorem qtq_ (l:List Int):∀ v ∈ l.map (Value.int .i64),v.oneCell'=true:=fun v hv=>by
 obtain ⟨_,_,rfl⟩:=List.mem_map.1 hv
 rfl
theorem qxx_ (l:List Int) (i:Nat):l.map (Value.int .i64)=(l.take i).map (Value.int .i64) ++ (l.drop i).map (Value.int .i64):=by rw[<-List.map_append,List.take_append_drop]
theorem z_len (k:Nat):(Builtin.zeroCells (Value.int .i64 0).cells k).toList.length=k:=by simp[Builtin.zeroCells,Value.cells]
def InsP (w w':World) (v:Value) (l':List Int) (v':Value):Prop:=RowI w' v' l'/\(v'.ownBlock=v.ownBlock\/∃ g,v'.ownBlock=some g/\w.heap.size<=g)/\Kp (fun k=>v.ownBlock=some k) w w'
theorem qxy_ {w:World} {v:Value} {l:List Int} (hl:RowI w v l) (i:Nat) (hi:i<=l.length) (hn:l.length<=1000) (vb:Nat) (x:Int) (hv:Has w vb #[.int .i64 x] 3) (hne:∀ k,v.ownBlock=some k->vb ≠ k) :
  Calls Tryz.prog 40 #[v,.int .i64 (i:Int),.slice (some ⟨vb,0,none⟩) 1 1] w fun e w'=>∃ v',e = .returned v'/\InsP w w' v (l.take i ++ x :: l.drop i) v':=by
 have hx:∀ j u,([Value.int .i64 x]:List Value)[j]?=some u->w.cell? ⟨vb,0+j,none⟩=some u:=by
  intro j u hj
  rw[Nat.zero_add,hv.cell j]
  simpa using hj
 have h1v:∀ u ∈ [Value.int .i64 x],u.oneCell'=true:=fun u hu=>by
  obtain rfl:u=Value.int .i64 x:=by simpa using hu
  rfl
 have hmx:maxLen=9223372036854775807:=rfl
 rcases qdt_ hl with ⟨rfl,rfl⟩|⟨g,c,S,rfl,hg,hc,hm⟩
 ·obtain rfl:i=0:=by simpa using hi
  refine (Tryz.slices_Insert_int_end_grow none 0 0 vb 0 1 1 [] [.int .i64 x] w (by decide) (by decide) (by decide) (by decide) rfl rfl (fun _=>rfl) (fun a ha=>by cases ha) hx h1v).mono ?_
  rintro e w' ⟨rfl,rfl⟩
  have hG:=grownCap_ge w (0+1) 0 3
  have hM:=grownCap_le_maxLen w (0+1) 0 3 (by decide)
  refine ⟨_,rfl,qef_ (S:=(Builtin.zeroCells (Value.int .i64 0).cells (grownCap w (0+1) 0 3 - (0+1))).toList) ?_ ?_ hM rfl,.inr ⟨_,rfl,Nat.le_refl _⟩,Kp.of (((Below.refl _ _).drew).alloc (Nat.le_refl _) _)⟩
  ·have:=Has.new (w:=w.drew) ((([]:List Value) ++ [Value.int .i64 x]).toArray ++ Builtin.zeroCells (Value.int .i64 0).cells (grownCap w (0+1) 0 3 - (0+1))) 3
   refine Eq.trans this ?_
   congr 2
   apply Array.toList_inj.1
   simp
  ·rw[z_len];exact (Nat.add_sub_of_le hG).symm
 ·have hcell:∀ j u,(l.map (Value.int .i64))[j]?=some u->w.cell? ⟨g,0+j,none⟩=some u:=by
   intro j u hj
   rw[Nat.zero_add,hg.cell j,List.getElem?_toArray,List.getElem?_append_left (List.getElem?_eq_some_iff.1 hj).1]
   exact hj
  have hgv:vb ≠ g:=hne g rfl
  have hlen:(l.map (Value.int .i64)).length=l.length:=List.length_map ..
  by_cases hin:i=l.length
  ·subst hin
   rw[List.take_length,List.drop_length]
   by_cases hroom:l.length+1<=c
   ·obtain ⟨s,S',rfl⟩:∃ s S',S=s :: S':=by
     cases S with
     | nil=>simp at hc;omega
     | cons s S'=>exact ⟨s,S',rfl⟩
    have hsome:∀ j,j<1->(w.cell? ⟨g,0+l.length+j,none⟩).isSome=true:=fun j hj=>by
     obtain rfl:j=0:=by omega
     rw[Nat.zero_add,Nat.add_zero,hg.cell,List.getElem?_toArray,List.getElem?_append_right (by omega)]
     simp
    refine (Tryz.slices_Insert_int_end_room g 0 l.length c vb 0 1 1 [.int .i64 x] w (by decide) hroom (by omega) rfl hsome (fun j _=>hg.free _) hx h1v).mono ?_
    rintro e w' ⟨rfl,rfl⟩
    rw[Nat.zero_add]
    have h2:=qbl_ g 3 [Value.int .i64 x] l.length w (l.map (Value.int .i64)) [s] S' (by simpa using hg) hlen rfl
    refine ⟨_,rfl,qef_ (S:=S') (by simpa using h2) (by simp at hc |-;omega) hm (by simp),.inl rfl,(qca_ w g _ _).mono fun k hk _=>by rw[hk];rfl⟩
   ·refine (Tryz.slices_Insert_int_end_grow (some ⟨g,0,none⟩) l.length c vb 0 1 1 (l.map (Value.int .i64)) [.int .i64 x] w (by decide) (by omega) (by omega) (by omega) hlen rfl (fun h=>by cases h) (fun a ha j u hj=>?_) hx h1v).mono ?_
    ·cases ha
     rw[Addr.add_lit]
     exact hcell j u hj
    rintro e w' ⟨rfl,rfl⟩
    have hG:=grownCap_ge w (l.length+1) c 3
    have hM:=grownCap_le_maxLen w (l.length+1) c 3 (by omega)
    refine ⟨_,rfl,qef_ (S:=(Builtin.zeroCells (Value.int .i64 0).cells (grownCap w (l.length+1) c 3 - (l.length+1))).toList) ?_ ?_ hM (by simp),.inr ⟨_,rfl,Nat.le_refl _⟩,Kp.of (((Below.refl _ _).drew).alloc (Nat.le_refl _) _)⟩
    ·have:=Has.new (w:=w.drew) ((l.map (Value.int .i64) ++ [Value.int .i64 x]).toArray ++ Builtin.zeroCells (Value.int .i64 0).cells (grownCap w (l.length+1) c 3 - (l.length+1))) 3
     refine Eq.trans this ?_
     congr 2
     apply Array.toList_inj.1
     simp
    ·rw[z_len];simp;omega
  ·have hil:i<l.length:=by omega
   have hdl:((l.map (Value.int .i64)).drop i).length=l.length - i:=by rw[List.length_drop,hlen]
   obtain ⟨q0,Q,hQ⟩:∃ q0 Q,(l.drop i).map (Value.int .i64)=q0 :: Q:=by
    cases hd:(l.drop i).map (Value.int .i64) with
    | nil=>rw[List.map_eq_nil_iff,List.drop_eq_nil_iff] at hd;omega
    | cons q0 Q=>exact ⟨q0,Q,rfl⟩
   have hQl:Q.length+1=l.length - i:=by
    have:=congrArg List.length hQ
    rw[List.length_map,List.length_drop,List.length_cons] at this
    omega
   have hPl:((l.take i).map (Value.int .i64)).length=i:=by rw[List.length_map,List.length_take];omega
   have hdm:(l.map (Value.int .i64)).drop i=q0 :: Q:=by rw[<-List.map_drop,hQ]
   have htm:(l.map (Value.int .i64)).take i=(l.take i).map (Value.int .i64):=by rw[<-List.map_take]
   by_cases hroom:l.length+1<=c
   ·obtain ⟨s,S',rfl⟩:∃ s S',S=s :: S':=by
     cases S with
     | nil=>simp at hc;omega
     | cons s S'=>exact ⟨s,S',rfl⟩
    have hsome:∀ j,j<l.length+1->(w.cell? ⟨g,0+j,none⟩).isSome=true:=fun j hj=>by
     rw[Nat.zero_add,hg.cell,Array.getElem?_eq_getElem (by simp;omega)]
     rfl
    refine (Tryz.slices_Insert_int_shift g 0 l.length c i vb 0 1 1 (l.map (Value.int .i64)) [.int .i64 x] w hil (by decide) hroom (by omega) hgv hlen rfl hcell hsome (fun j _=>hg.free _) hx (qtq_ l) h1v 3 3 1 (l.map (Value.int .i64) ++ s :: S').toArray.size (by unfold World.shape?;rw[hv.out];rfl) (by unfold World.shape?;rw[hg.out]) (by simp) (hv.free _) (hv.free _)).mono ?_
    rintro e w' ⟨rfl,hw⟩
    rw[Nat.zero_add,Nat.zero_add,hdm] at hw
    subst hw
    have h1:Has w.drew g (((l.take i).map (Value.int .i64) ++ [q0]) ++ ((Q ++ [s]) ++ S')).toArray 3:=by
     have:=Has.drew hg
     rw[qxx_ l i,hQ] at this
     simpa using this
    have h2:=qbl_ g 3 (q0 :: Q) (i+1) w.drew _ (Q ++ [s]) S' h1 (by rw[List.length_append,hPl];rfl) (by simp)
    have h3:=qbl_ g 3 [Value.int .i64 x] i _ ((l.take i).map (Value.int .i64)) [q0] ((q0 :: Q) ++ S') (by simpa using h2) hPl rfl
    refine ⟨_,rfl,qef_ (S:=S') ?_ (by simp at hc |-;omega) hm (by simp;omega),.inl rfl,?_⟩
    ·rw[List.map_append,List.map_cons,hQ]
     simpa using h3
    ·exact (((qtp_ (fun k=>k=g) w).trans (qca_ _ g _ _) (fun _ h _=>h)).trans (qca_ _ g _ _) (fun _ h _=>h)).mono fun k hk _=>by rw[hk];rfl
   ·refine (Tryz.slices_Insert_int_grow g 0 l.length c i vb 0 1 1 (l.map (Value.int .i64)) [.int .i64 x] w hil (by decide) (by omega) (by omega) (by omega) hlen rfl hcell hx (qtq_ l) h1v).mono ?_
    rintro e w' ⟨rfl,hw⟩
    rw[hdm,htm] at hw
    have hG:=grownCap_ge w (l.length+1) c 3
    have hM:=grownCap_le_maxLen w (l.length+1) c 3 (by omega)
    obtain ⟨G,hGe⟩:∃ G,G=grownCap w (l.length+1) c 3:=⟨_,rfl⟩
    rw[<-hGe] at hw hG hM |-
    have hz1:=z_len (l.length+1 - i)
    have hz2:=z_len (G - (l.length+1))
    generalize Builtin.zeroCells (Value.int .i64 0).cells (l.length+1 - i)=Z1 at hw hz1
    generalize Builtin.zeroCells (Value.int .i64 0).cells (G - (l.length+1))=Z2 at hw hz2
    obtain ⟨z0,Z3,hZ⟩:∃ z0 Z3,Z1.toList=z0 :: Z3:=by
     cases hz:Z1.toList with
     | nil=>rw[hz] at hz1;simp at hz1;omega
     | cons z0 Z3=>exact ⟨z0,Z3,rfl⟩
    have hZ3:Z3.length=l.length - i:=by
     rw[hZ,List.length_cons] at hz1
     omega
    have h1:Has ((w.alloc (.cells (((l.take i).map (Value.int .i64)).toArray ++ Z1 ++ Z2) 3)).drew) w.heap.size ((l.take i).map (Value.int .i64) ++ ([z0] ++ (Z3 ++ Z2.toList))).toArray 3:=by
     refine Eq.trans (Has.new (w:=w) (((l.take i).map (Value.int .i64)).toArray ++ Z1 ++ Z2) 3) ?_
     congr 2
     apply Array.toList_inj.1
     simp[hZ]
    have h2:=qbl_ w.heap.size 3 [Value.int .i64 x] i _ _ [z0] (Z3 ++ Z2.toList) h1 hPl rfl
    have h3:=qbl_ w.heap.size 3 (q0 :: Q) (i+1) _ ((l.take i).map (Value.int .i64) ++ [Value.int .i64 x]) Z3 Z2.toList (Has.drew (by rw[List.append_assoc];exact h2)) (by rw[List.length_append,hPl];rfl) (by rw[hZ3,List.length_cons];omega)
    refine ⟨_,rfl,qef_ (S:=Z2.toList) ?_ (by rw[hz2];simp;omega) hM (by simp;omega),.inr ⟨_,rfl,Nat.le_refl _⟩,?_⟩
    ·have e:(l.take i).map (Value.int .i64) ++ [Value.int .i64 x] ++ ((q0 :: Q) ++ Z2.toList)=((l.take i).map (Value.int .i64) ++ Value.int .i64 x :: (q0 :: Q)) ++ Z2.toList:=by simp
     rw[e] at h3
     rw[List.map_append,List.map_cons,hQ,hw]
     exact h3
    ·rw[hw]
     have hb:Below w.heap.size w ((w.alloc (.cells (((l.take i).map (Value.int .i64)).toArray ++ Z1 ++ Z2) 3)).drew):=((Below.refl _ _).alloc (Nat.le_refl _) _).drew
     refine (((Kp.of (F:=fun k=>k=w.heap.size) hb).trans (qca_ _ w.heap.size _ _) (fun _ h _=>h)).trans ((qtp_ (fun k=>k=w.heap.size) _).trans (qca_ _ w.heap.size _ _) (fun _ h _=>h)) (fun _ h _=>h)).mono fun k hk hlt=>?_
     omega
theorem qxz_ {w:World} {v:Value} {l:List Int} (hl:RowI w v l) (i:Nat) (hi:i<l.length) (z:Int) (hz:z=((i+1:Nat):Int)) :
  Calls Tryz.prog 41 #[v,.int .i64 (i:Int),.int .i64 z] w fun e w'=>∃ v',e = .returned v'/\InsP w w' v (l.take i ++ l.drop (i+1)) v':=by
 subst hz
 have hmx:maxLen=9223372036854775807:=rfl
 rcases qdt_ hl with ⟨rfl,rfl⟩|⟨g,c,S,rfl,hg,hc,hm⟩
 ·simp at hi
 ·have hH:Sort.Holds (Value.int .i64) w g 0 l.toArray:=fun j hj=>by
   rw[Nat.zero_add]
   refine ⟨?_,hg.free _⟩
   have hj':j<l.length:=by simpa using hj
   rw[hg.cell j,List.getElem?_toArray,List.getElem?_append_left (by simpa using hj'),List.getElem?_map,List.getElem?_eq_getElem hj']
   simp[hj']
  refine (Tryz.slices_Delete_int g 0 c i (i+1) l w hH (by omega) (by omega) (by omega) (by omega)).mono ?_
  rintro e w' ⟨rfl,q,hw⟩
  have hlen:(l.take i ++ l.drop (i+1) ++ List.replicate (i+1 - i) (0:Int)).length=l.toArray.size:=by simp;omega
  rw[Lib.putRow_eq_setCells (Value.int .i64) w g 0 l.toArray _ q hH hlen] at hw
  subst hw
  have h2:=qbl_ g 3 ((l.take i ++ l.drop (i+1) ++ List.replicate (i+1 - i) (0:Int)).map (Value.int .i64)) 0 (w.drewN q) [] (l.map (Value.int .i64)) S (Has.drewN (by simpa using hg) q) rfl (by rw[List.length_map,List.length_map,hlen];simp)
  refine ⟨_,rfl,qef_ (S:=Value.int .i64 0 :: S) ?_ (by simp at hc |-;omega) hm (by simp;omega),.inl rfl,((qaeq_ (fun k=>k=g) w q).trans (qca_ _ g _ _) (fun _ h _=>h)).mono fun k hk _=>by rw[hk];rfl⟩
  rw[show i+1 - i=1 by omega] at h2
  simpa using h2
theorem qaer_ {w:World} {v:Value} {l:List Int} (hl:RowI w v l) (hn:l.length<=1000) :
  Calls Tryz.prog 45 #[v] w fun e w'=>∃ v',e = .returned v'/\RowI w' v' l/\(∀k,v'.ownBlock=some k->w.heap.size<=k)/\Below w.heap.size w w':=by
 have weak:∀ {w':World} {v':Value},w'.ownsRow w.heap.size 3 1 v' l.length (l.map (Value.int .i64))->RowI w' v' l/\∀ k,v'.ownBlock=some k->w.heap.size<=k:=fun h=>by
  refine ⟨⟨h.1,h.2.imp id fun ⟨g,c,cur,a1,_,a3⟩=>⟨g,c,cur,a1,Nat.zero_le _,a3⟩⟩,fun k hk=>(h.lt k hk).1⟩
 rcases qdt_ hl with ⟨rfl,rfl⟩|⟨g,c,S,rfl,hg,hc,hm⟩
 ·refine (Tryz.slices_Clone_int_nil 0 0 w).mono ?_
  rintro e w' ⟨rfl,rfl⟩
  exact ⟨_,rfl,World.ownsRow_nil _ _ _ _,fun k hk=>(by cases hk),Below.refl _ _⟩
 ·by_cases h0:l=[]
  ·subst h0
   refine (Tryz.slices_Clone_int_zero ⟨g,0,none⟩ c w).mono ?_
   rintro e w' ⟨v',rfl,h1,_,hb⟩
   exact ⟨v',rfl,(weak h1).1,(weak h1).2,hb⟩
  ·have hc':∀ j,j<l.length->w.cell? ⟨g,0+j,none⟩=some (.int .i64 (l.getD j 0)):=fun j hj=>by
    rw[Nat.zero_add,hg.cell j,List.getElem?_toArray,List.getElem?_append_left (by simpa using hj),List.getElem?_map,List.getElem?_eq_getElem hj]
    simp[List.getD,hj]
   refine (Tryz.slices_Clone_int g 0 l.length c l w (Nat.le_refl _) (by omega) hc').mono ?_
   rintro e w' ⟨v',rfl,h1,_,hb⟩
   rw[List.take_length] at h1
   exact ⟨v',rfl,(weak h1).1,(weak h1).2,hb⟩
end Go.Proofs.YtbgjiplfaolpjaaGreatDoor.An
