import Derived.Test.YtbgjiplfaolpjaaGreatDoorUIdm
import Derived.Test.YtbgjiplfaolpjaaGreatDoorUTpRow
import Derived.Shelf.Abstract
import Derived.Test.YtbgjiplfaolpjaaGreatDoorUBunQ40
set_option maxRecDepth 100000
set_option maxHeartbeats 4000000
namespace Go.Proofs.YtbgjiplfaolpjaaGreatDoor.An
open Go.RowKit Mem Sc
set_option maxRecDepth 100000
theorem quw_ (g:FuncId) (cb:Array Value) (n k:Nat) (p:Nat->Bool) (w:World) (hsz:n<4611686018427387904) (hk:k<=n) (H1:Hid (∀i,i<k->p i=false)) (H2:Hid (∀i,k<=i->i<n->p i=true)) (eg:∀ args w,(callFunc g args).run Tryz.prog w = .ok (.enter g args) w)
  (KP:Hid (∀w' i,i<n->Below w.heap.size w w'->Calls Tryz.prog g (#[.int .i64 (i:Int)] ++ cb) w' fun e w''=>e = .returned (.bool (p i))/\Below w'.heap.size w' w'')) :
  Ca_ 73 #[.int .i64 (n:Int),.func (.func g) #[] cb] w (.int .i64 (k:Int)):=by
 have hB:=Below.refl w.heap.size w
 go_enter Tryz.func73,Tryz.ntmps73
 go_wp2_with fail
 go_loopw [5,6] (fun s5 s6 wr=>∃ lo hi:Nat,s5 = .int .i64 (lo:Int)/\s6 = .int .i64 (hi:Int)/\lo<=k/\k<=hi/\hi<=n/\Below w.heap.size w wr) (fun s5 s6 _=>((intOf s6) - (intOf s5)).toNat)
 case atStart=>exact ⟨0,n,rfl,rfl,by omega,hk,Nat.le_refl _,hB⟩
 case round=>
  clear hB
  obtain ⟨lo,hi,rfl,rfl,hlo,hhi,hin,hB⟩:=hrel
  by_cases hlt:lo<hi
  ·obtain ⟨m,hm⟩:∃ m,m=(lo+hi) / 2:=⟨_,rfl⟩
   have hc:=KP.out _ m (by omega) hB
   have h1:=H1.out m
   have h2:=H2.out m
   have hmi:(m:Int)=((lo:Int)+(hi:Int)) / 2:=by omega
   rw[hmi] at hc
   have HM:Hid (m=(lo+hi) / 2):=h_ hm
   cases hp:p m <;> rw[hp] at hc
   ·have HK:Hid (m<k):=h_ (Nat.lt_of_not_ge fun hh=>by have:=h2 hh (by omega);rw[hp] at this;cases this)
    clear h1 h2 hp hm hmi
    go_wp2_with (go_at_fn g;refine hc.mono ?_;rintro e w' ⟨rfl,hb⟩)
    go_roundw
    case rel=>exact ⟨m+1,hi,by have:=HM.out;go_num,rfl,by have:=HK.out;omega,hhi,hin,tb_ hB hb⟩
    case measure=>have:=HM.out;simp[intOf];omega
   ·have HK:Hid (k<=m):=h_ (Nat.le_of_not_lt fun hh=>by have:=h1 hh;rw[hp] at this;cases this)
    clear h1 h2 hp hm hmi
    go_wp2_with (go_at_fn g;refine hc.mono ?_;rintro e w' ⟨rfl,hb⟩)
    go_roundw
    case rel=>exact ⟨lo,m,rfl,by have:=HM.out;go_num,hlo,HK.out,by have:=HM.out;omega,tb_ hB hb⟩
    case measure=>have:=HM.out;simp[intOf];omega
  ·obtain rfl:lo=k:=by omega
   obtain rfl:hi=lo:=by omega
   go_wp2_with fail
   go_ret
   exact ⟨rfl,hB⟩
def stA (q:Option Addr) (lv:Value):Array Value:=#[.pointer q,lv]
theorem st0 {w:World} {s:Nat} {q:Option Addr} {lv:Value} (h:Has w s (stA q lv) 78):w.cell? ⟨s,0,none⟩=some (.pointer q):=Has.cell h 0
theorem st1 {w:World} {s:Nat} {q:Option Addr} {lv:Value} (h:Has w s (stA q lv) 78):w.cell? ⟨s,1,none⟩=some lv:=Has.cell h 1
theorem st_set {w:World} {s:Nat} {q:Option Addr} {lv:Value} (h:Has w s (stA q lv) 78) (v:Value):Has (w.setCell ⟨s,1,none⟩ v) s (stA q v) 78:=Has.set (i:=1) h v
theorem seek1_w (p1 p2 s:Nat) (q:Option Addr) (g n c i:Nat) (x y:Int) (hv:Bool) (w:World) (c1:w.cell? ⟨p1,0,none⟩=some (.pointer (some ⟨s,0,none⟩))) (c2:w.cell? ⟨p2,0,none⟩=some (.int .i64 x)) (c3:w.cell? ⟨s,0,none⟩=some (.pointer q)) (c4:w.cell? ⟨s,1,none⟩=some (.slice (some ⟨g,0,none⟩) n c)) (c5:w.cell? ⟨g,i,none⟩=some (.int .i64 y)) (hi:i<n)
  (KH:HK_ w 22 #[.pointer q,.int .i64 y,.int .i64 x] (.bool hv)) :
  Ca_ 74 #[.int .i64 (i:Int),.pointer (some ⟨p1,0,none⟩),.pointer (some ⟨p2,0,none⟩)] w (.bool (!hv)):=by
 have hR:∀ d os,Below w.heap.size w (Sort.grow (redrawn w d) os):=fun d os=>below_regrown w d os
 have q1:∀ d os,(Sort.grow (redrawn w d) os).cell? ⟨p1,0,none⟩=some (.pointer (some ⟨s,0,none⟩)):=cell_regrown c1
 have q2:∀ d os,(Sort.grow (redrawn w d) os).cell? ⟨p2,0,none⟩=some (.int .i64 x):=cell_regrown c2
 have q3:∀ d os,(Sort.grow (redrawn w d) os).cell? ⟨s,0,none⟩=some (.pointer q):=cell_regrown c3
 have q4:∀ d os,(Sort.grow (redrawn w d) os).cell? ⟨s,1,none⟩=some (.slice (some ⟨g,0,none⟩) n c):=cell_regrown c4
 have q5:∀ d os,(Sort.grow (redrawn w d) os).cell? ⟨g,i,none⟩=some (.int .i64 y):=cell_regrown c5
 clear c1 c2 c3 c4 c5
 go_enter Tryz.func74,Tryz.ntmps74
 go_wp2_with fail
 refine wp_region_quiet_below (by kernel_rfl) (by kernel_rfl) ?_
 repeat (first
  | go_big_quiet_step ((go_at_call 22;exact Calls.regrown_of (KH.out _ (hR _ _)))))
 refine wpQuiet_nil ?_
 intro v3 hw'
 have hb:=qo_ v3 hw'
 clear hw' hR q1 q2 q3 q4 q5
 go_wp2_with fail
 go_ret
 exact ⟨rfl,hb⟩
theorem qagd_ (p1 p2 s:Nat) (q:Option Addr) (g n c i:Nat) (x y:Int) (hv:Bool) (w:World) (c1:w.cell? ⟨p1,0,none⟩=some (.pointer (some ⟨s,0,none⟩))) (c2:w.cell? ⟨p2,0,none⟩=some (.int .i64 x)) (c3:w.cell? ⟨s,0,none⟩=some (.pointer q)) (c4:w.cell? ⟨s,1,none⟩=some (.slice (some ⟨g,0,none⟩) n c)) (c5:w.cell? ⟨g,i,none⟩=some (.int .i64 y)) (hi:i<n)
  (KH:HK_ w 22 #[.pointer q,.int .i64 x,.int .i64 y] (.bool hv)) :
  Ca_ 77 #[.int .i64 (i:Int),.pointer (some ⟨p1,0,none⟩),.pointer (some ⟨p2,0,none⟩)] w (.bool hv):=by
 have hR:∀ d os,Below w.heap.size w (Sort.grow (redrawn w d) os):=fun d os=>below_regrown w d os
 have q1:∀ d os,(Sort.grow (redrawn w d) os).cell? ⟨p1,0,none⟩=some (.pointer (some ⟨s,0,none⟩)):=cell_regrown c1
 have q2:∀ d os,(Sort.grow (redrawn w d) os).cell? ⟨p2,0,none⟩=some (.int .i64 x):=cell_regrown c2
 have q3:∀ d os,(Sort.grow (redrawn w d) os).cell? ⟨s,0,none⟩=some (.pointer q):=cell_regrown c3
 have q4:∀ d os,(Sort.grow (redrawn w d) os).cell? ⟨s,1,none⟩=some (.slice (some ⟨g,0,none⟩) n c):=cell_regrown c4
 have q5:∀ d os,(Sort.grow (redrawn w d) os).cell? ⟨g,i,none⟩=some (.int .i64 y):=cell_regrown c5
 clear c1 c2 c3 c4 c5
 go_enter Tryz.func77,Tryz.ntmps77
 go_wp2_with fail
 refine wp_region_quiet_below (by kernel_rfl) (by kernel_rfl) ?_
 repeat (first
  | go_big_quiet_step ((go_at_call 22;exact Calls.regrown_of (KH.out _ (hR _ _)))))
 refine wpQuiet_nil ?_
 intro v3 hw'
 have hb:=qo_ v3 hw'
 clear hw' hR q1 q2 q3 q4 q5
 go_wp2_with fail
 go_ret
 exact ⟨rfl,hb⟩
def CellsI (w:World) (ad:Option Addr) (l:List Int):Prop:=∀ i (hi:i<l.length),∃ g,ad=some ⟨g,0,none⟩/\w.cell? ⟨g,i,none⟩=some (.int .i64 l[i])
theorem CellsI.below {w w':World} {ad:Option Addr} {l:List Int} (h:CellsI w ad l) (hb:Below w.heap.size w w'):CellsI w' ad l:=fun i hi=>by
 obtain ⟨g,h1,h2⟩:=h i hi
 exact ⟨g,h1,(hb.cell (p:=⟨g,i,none⟩) (block_lt_of_cell h2)).trans h2⟩
theorem seek_w (s:Nat) (q:Option Addr) (ad:Option Addr) (l:List Int) (n c:Nat) (x:Int) (k:Nat) (p:Nat->Bool) (hn:n=l.length) (hn1:n<=1000) (hk:k<=n) (H1:Hid (∀i,i<k->p i=false)) (H2:Hid (∀i,k<=i->i<n->p i=true)) (g2:Bool) (hg:Hid (∀h:k<l.length,(l[k]==x)=g2)) (hg':k=n->g2=false) (w:World) (hS:Has w s (stA q (.slice ad n c)) 78) (hC:CellsI w ad l)
  (KH:Hid (∀w' i (hi:i<l.length),Below w.heap.size w w'->Calls Tryz.prog 22 #[.pointer q,.int .i64 l[i],.int .i64 x] w' fun e w''=>e = .returned (.bool (!p i))/\Below w'.heap.size w' w'')) :
  Ca_ 38 #[.pointer (some ⟨s,0,none⟩),.int .i64 x] w (.tuple #[.int .i64 (k:Int),.bool g2]):=by
 have HN:=h_ hn
 have HC:=h_ hC
 clear hn hC
 go_enter Tryz.func38,Tryz.ntmps38
 go_upto_region 1 with fail
 generalize hw0:World.alloc _ _=v0
 have hB:Below w.heap.size w v0:=by rw[<-hw0];exact ((Below.refl _ _).alloc (Nat.le_refl _) _).alloc (by simp) _
 have b1:v0.cell? ⟨w.heap.size,0,none⟩=some (.pointer (some ⟨s,0,none⟩)):=by rw[<-hw0];exact Has.cell (Has.alloc (Has.new #[.pointer (some ⟨s,0,none⟩)] _) _) 0
 have b2:v0.cell? ⟨w.heap.size+1,0,none⟩=some (.int .i64 x):=by rw[<-hw0];exact NN.Has.cell (NN.Has.new1 _ #[.int .i64 x] _) 0
 clear hw0
 obtain ⟨p1,e1⟩:∃ y,y=w.heap.size:=⟨_,rfl⟩
 obtain ⟨p2,e2⟩:∃ y,y=w.heap.size+1:=⟨_,rfl⟩
 rw[<-e2] at b2 |-
 rw[<-e1] at b1 |-
 clear e1 e2
 have hS0:=qd_ hB hS (Has.lt hS)
 have c3:=st0 hS0
 have c4:=st1 hS0
 have B1:=h_ b1
 have B2:=h_ b2
 have C3:=h_ c3
 have C4:=h_ c4
 have HC0:=h_ (HC.out.below hB)
 have HB0:=h_ hB
 clear hS hS0 HC b2 c3
 go_wp2_with fail
 refine (quw_ 74 #[.pointer (some ⟨p1,0,none⟩),.pointer (some ⟨p2,0,none⟩)] n k p v0 (by omega) hk H1 H2 (enters_of Tryz.func74 (by kernel_rfl) rfl) (h_ fun w' i hi hb=>?_)).mono ?_
 ·have hil:i<l.length:=by rw[<-HN.out];exact hi
  obtain ⟨g,hg1,hg2⟩:=HC0.out.below hb i hil
  subst hg1
  have hc:∀ {a:Addr} {u:Value},v0.cell? a=some u->w'.cell? a=some u:=fun h=>(hb.cell (block_lt_of_cell h)).trans h
  have:=seek1_w p1 p2 s q g n c i x l[i] (!p i) w' (hc B1.out) (hc B2.out) (hc C3.out) (hc C4.out) hg2 hi (h_ fun w'' hb'=>KH.out w'' i hil (HB0.out.trans ((tb_ hb hb').mono HB0.out.size)))
  rwa [Bool.not_not] at this
 rintro e v1 ⟨rfl,hb⟩
 have c4':=(hb.cell (p:=⟨s,1,none⟩) (block_lt_of_cell C4.out)).trans C4.out
 have b1':=(hb.cell (p:=⟨p1,0,none⟩) (block_lt_of_cell B1.out)).trans B1.out
 have b2':=(hb.cell (p:=⟨p2,0,none⟩) (block_lt_of_cell B2.out)).trans B2.out
 replace hB:=tb_ hB hb
 have HC1:=h_ (HC0.out.below hb)
 clear hb HC0 B1 B2 C3 C4 c4 b1 HB0 KH H1 H2
 have q1:∀ d os,(Sort.grow (redrawn v1 d) os).cell? ⟨p1,0,none⟩=some (.pointer (some ⟨s,0,none⟩)):=cell_regrown b1'
 have q2:∀ d os,(Sort.grow (redrawn v1 d) os).cell? ⟨p2,0,none⟩=some (.int .i64 x):=cell_regrown b2'
 have q4:∀ d os,(Sort.grow (redrawn v1 d) os).cell? ⟨s,1,none⟩=some (.slice ad n c):=cell_regrown c4'
 by_cases hkn:k<n
 ·have hkl:k<l.length:=by rw[<-HN.out];exact hkn
  obtain ⟨g,hg1,hg2⟩:=HC1.out k hkl
  subst hg1
  have hgg:=hg.out hkl
  generalize l[k]=y at *
  have q5:∀ d os,(Sort.grow (redrawn v1 d) os).cell? ⟨g,k,none⟩=some (.int .i64 y):=cell_regrown hg2
  have hd:decide ((k:Int)<(n:Int))=true:=decide_eq_true (by omega)
  clear hg2 HC1 hkl b1' b2' c4' hg hg'
  go_wp2_with fail
  refine wp_region_quiet_below (by kernel_rfl) (by kernel_rfl) ?_
  repeat (first
   | go_big_quiet_step (fail))
  refine wpQuiet_nil ?_
  intro v3 hw'
  have hb:=qo_ v3 hw'
  replace hB:=tb_ hB hb
  clear hw' hb q1 q2 q4 q5
  go_wp2_with fail
  go_ret2
  exact ⟨rfl,hB⟩
 ·have hd:decide ((k:Int)<(n:Int))=false:=decide_eq_false (by omega)
  have hd2:decide (k<n)=false:=decide_eq_false hkn
  obtain rfl:=hg' (by omega)
  clear HC1 b1' b2' c4' hg hg' hkn
  go_wp2_with fail
  refine wp_region_quiet_below (by kernel_rfl) (by kernel_rfl) ?_
  repeat (first
   | go_big_quiet_step (fail))
  refine wpQuiet_nil ?_
  intro v3 hw'
  have hb:=qo_ v3 hw'
  replace hB:=tb_ hB hb
  clear hw' hb q1 q2 q4
  go_wp2_with fail
  go_ret2
  exact ⟨rfl,hB⟩
theorem qabe_ (s:Nat) (q:Option Addr) (ad:Option Addr) (l:List Int) (n c:Nat) (x:Int) (k:Nat) (p:Nat->Bool) (hn:n=l.length) (hn1:n<=1000) (hk:k<=n) (H1:Hid (∀i,i<k->p i=false)) (H2:Hid (∀i,k<=i->i<n->p i=true)) (w:World) (hS:Has w s (stA q (.slice ad n c)) 78) (hC:CellsI w ad l)
  (KH:Hid (∀w' i (hi:i<l.length),Below w.heap.size w w'->Calls Tryz.prog 22 #[.pointer q,.int .i64 x,.int .i64 l[i]] w' fun e w''=>e = .returned (.bool (p i))/\Below w'.heap.size w' w'')) :
  Ca_ 42 #[.pointer (some ⟨s,0,none⟩),.int .i64 x] w (.int .i64 (k:Int)):=by
 have HN:=h_ hn
 have HC:=h_ hC
 clear hn hC
 go_enter Tryz.func42,Tryz.ntmps42
 go_upto_region 1 with fail
 generalize hw0:World.alloc _ _=v0
 have hB:Below w.heap.size w v0:=by rw[<-hw0];exact ((Below.refl _ _).alloc (Nat.le_refl _) _).alloc (by simp) _
 have b1:v0.cell? ⟨w.heap.size,0,none⟩=some (.pointer (some ⟨s,0,none⟩)):=by rw[<-hw0];exact Has.cell (Has.alloc (Has.new #[.pointer (some ⟨s,0,none⟩)] _) _) 0
 have b2:v0.cell? ⟨w.heap.size+1,0,none⟩=some (.int .i64 x):=by rw[<-hw0];exact NN.Has.cell (NN.Has.new1 _ #[.int .i64 x] _) 0
 clear hw0
 obtain ⟨p1,e1⟩:∃ y,y=w.heap.size:=⟨_,rfl⟩
 obtain ⟨p2,e2⟩:∃ y,y=w.heap.size+1:=⟨_,rfl⟩
 rw[<-e2] at b2 |-
 rw[<-e1] at b1 |-
 clear e1 e2
 have hS0:=qd_ hB hS (Has.lt hS)
 have c3:=st0 hS0
 have c4:=st1 hS0
 have B1:=h_ b1
 have B2:=h_ b2
 have C3:=h_ c3
 have C4:=h_ c4
 have HC0:=h_ (HC.out.below hB)
 have HB0:=h_ hB
 clear hS hS0 HC b2 c3
 go_wp2_with fail
 refine (quw_ 77 #[.pointer (some ⟨p1,0,none⟩),.pointer (some ⟨p2,0,none⟩)] n k p v0 (by omega) hk H1 H2 (enters_of Tryz.func77 (by kernel_rfl) rfl) (h_ fun w' i hi hb=>?_)).mono ?_
 ·have hil:i<l.length:=by rw[<-HN.out];exact hi
  obtain ⟨g,hg1,hg2⟩:=HC0.out.below hb i hil
  subst hg1
  have hc:∀ {a:Addr} {u:Value},v0.cell? a=some u->w'.cell? a=some u:=fun h=>(hb.cell (block_lt_of_cell h)).trans h
  exact qagd_ p1 p2 s q g n c i x l[i] (p i) w' (hc B1.out) (hc B2.out) (hc C3.out) (hc C4.out) hg2 hi (h_ fun w'' hb'=>KH.out w'' i hil (HB0.out.trans ((tb_ hb hb').mono HB0.out.size)))
 rintro e v1 ⟨rfl,hb⟩
 replace hB:=tb_ hB hb
 clear hb HC0 B1 B2 C3 C4 c4 b1 HB0 KH H1 H2
 go_wp2_with fail
 go_ret
 exact ⟨rfl,hB⟩
theorem may_w (s:Nat) (q:Option Addr) (lv:Value) (x:Int) (e:En) (he:e.ok) (g:Bool) (w:World) (hS:Has w s (stA q lv) 78)
  (KA:Hid (∀w',Below w.heap.size w w'->Calls Tryz.prog 30 #[.pointer q,.int .i64 x] w' fun u w''=>u = .returned (.tuple #[.agg (enA e),.bool g])/\Below w'.heap.size w' w'')) :
  Calls Tryz.prog 39 #[.pointer (some ⟨s,0,none⟩),.int .i64 x] w fun u w'=>u = .returned (.bool g)/\Below w.heap.size w w':=by
 have z0:=qav_ enZ_ok
 have z1:=qav_ he
 have hB:=Below.refl w.heap.size w
 have c0:=st0 hS
 clear hS
 go_enter Tryz.func39,Tryz.ntmps39
 go_wp2_with fail
 refine (KA.out _ hB).mono ?_
 rintro u v1 ⟨rfl,hb⟩
 replace hB:=tb_ hB hb
 clear hb c0
 have hnew:=qdy_ v1
 have hb2:Below v1.heap.size v1 ((v1.alloc (.cells Tryz.zeroCells81 81)).setRow v1.heap.size (enA e)):=below_setRow ((Below.refl _ _).alloc (Nat.le_refl _) _) (Nat.le_refl _) _
 replace hB:=tb_ hB hb2
 clear hb2
 go_wp2_with (with_reducible refine qck_ rfl _ _ rfl _ _ e rfl rfl rfl z1 hnew z0 ?_)
 go_ret
 exact ⟨rfl,hB⟩
end Go.Proofs.YtbgjiplfaolpjaaGreatDoor.An
namespace Go.Proofs.YtbgjiplfaolpjaaGreatDoor.An
open Go.RowKit Mem Sc NN.Rg2
set_option maxRecDepth 100000
theorem qok_ {α β:Type} (f:β->α->β) (l:β) (ps:List α) (k:Nat) (hk:k<ps.length):(ps.take (k+1)).foldl f l=f ((ps.take k).foldl f l) ps[k]:=by
 rw[List.take_add_one,List.getElem?_eq_getElem hk,Option.toList_some,List.foldl_append]
 rfl
theorem qkz_ {w:World} {ops:Array Oper} {rest:List Oper} {o:Oper} {a:Act} {Q:Exit->Act->World->Prop} (hgd:o.guard=none) (x y:Operand) (ho:o.op = .store 49 x y) (q:Addr) (ad:Option Addr) (n c:Nat) (u:Value) (hx:a.eval x = .pointer (some q)) (hy:a.eval y = .slice ad n c) (hf:w.frozen? q=false) (hc:w.cell? q=some u)
  (hk:wpList Tryz.prog ops Q rest (a.put o.dst undef) (w.setCell q (.slice ad n c))):wpList Tryz.prog ops Q (o :: rest) a w :=
 wpList_plain hgd fun _ hK=>by
  unfold Oper.wp
  rw[qdk_ ho hx hy hf hc]
  exact hK _ _ hk
def Kept (s:Nat) (St:World->List Nat->Prop) (m:List Nat) (e:Ending) (w:World):Prop:=∃ ad n c u,e = .returned (.slice ad n c)/\w.cell? ⟨s,1,none⟩=some u/\w.frozen? ⟨s,1,none⟩=false/\St (w.setCell ⟨s,1,none⟩ (.slice ad n c)) m
def PutR (s:Nat) (St:World->List Nat->Prop) (f:List Nat->Int->List Nat) (wr:World) (m:List Nat) (x:Int):Prop :=
 ∃ (k:Nat) (th is:Bool),(∀w',Below wr.heap.size wr w'->Calls Tryz.prog 38 #[.pointer (some ⟨s,0,none⟩),.int .i64 x] w' fun e w''=>e = .returned (.tuple #[.int .i64 (k:Int),.bool th])/\Below w'.heap.size w' w'')/\(∀w',Below wr.heap.size wr w'->Calls Tryz.prog 39 #[.pointer (some ⟨s,0,none⟩),.int .i64 x] w' fun e w''=>e = .returned (.bool is)/\Below w'.heap.size w' w'')/\((th=true\/is=false)->f m x=m)/\
  (th=false->is=true->∀ w',Below wr.heap.size wr w'->∃ ad c,w'.cell? ⟨s,1,none⟩=some (.slice ad m.length c)/\∀ w2 vb,Below w'.heap.size w' w2->w'.heap.size<=vb->Has w2 vb #[.int .i64 x] 3->Calls Tryz.prog 40 #[.slice ad m.length c,.int .i64 (k:Int),.slice (some ⟨vb,0,none⟩) 1 1] w2 fun e w3=>Kept s St (f m x) e w3)
def DropR (s:Nat) (St:World->List Nat->Prop) (f:List Nat->Int->List Nat) (wr:World) (m:List Nat) (x:Int):Prop :=
 ∃ (k:Nat) (th:Bool),k<=1000/\(∀w',Below wr.heap.size wr w'->Calls Tryz.prog 38 #[.pointer (some ⟨s,0,none⟩),.int .i64 x] w' fun e w''=>e = .returned (.tuple #[.int .i64 (k:Int),.bool th])/\Below w'.heap.size w' w'')/\(th=false->f m x=m)/\
  (th=true->∀ w',Below wr.heap.size wr w'->∃ ad c,w'.cell? ⟨s,1,none⟩=some (.slice ad m.length c)/\∀ z:Int,z=((k+1:Nat):Int)->Calls Tryz.prog 41 #[.slice ad m.length c,.int .i64 (k:Int),.int .i64 z] w' fun e w3=>Kept s St (f m x) e w3)
theorem put_w (s:Nat) (a:Option Addr) (n c:Nat) (ps:List Int) (HN:Hid (n=ps.length)) (hn2:n<=1000) (St:World->List Nat->Prop) (f:List Nat->Int->List Nat) (l:List Nat) (w:World) (HS:Hid (St w l)) (KB:Hid (∀wr wr' m,St wr m->Below wr.heap.size wr wr'->St wr' m)) (KL:Hid (∀wr m,St wr m->m.length<=900/\∃ ad c,wr.cell? ⟨s,1,none⟩=some (.slice ad m.length c)))
  (KA:Hid (∀wr m,St wr m->0<n->∃ ab ao,a=some ⟨ab,ao,none⟩/\∀ i (hi:i<ps.length),wr.cell? ⟨ab,ao+i,none⟩=some (.int .i64 ps[i]))) (KR:Hid (∀wr m x,St wr m->PutR s St f wr m x)) :
  Calls Tryz.prog 13 #[.pointer (some ⟨s,0,none⟩),.slice a n c] w fun e w'=>e = .returned (.int .i64 (((ps.foldl f l).length:Int) - (l.length:Int)))/\St w' (ps.foldl f l):=by
 obtain ⟨hl9,ad,cc,c1⟩:=KL.out w l HS.out
 obtain ⟨L,hL⟩:∃ L,L=l.length:=⟨_,rfl⟩
 rw[<-hL] at c1 hl9 |-
 clear hL
 obtain ⟨R,hR⟩:∃ R,R=ps.foldl f l:=⟨_,rfl⟩
 rw[<-hR]
 obtain ⟨z,hz⟩:∃ z:Int,z=(R.length:Int) - (L:Int):=⟨_,rfl⟩
 rw[<-hz]
 have HR:=h_ hR
 have HZ:=h_ hz
 clear hR hz
 go_enter Tryz.func13,Tryz.ntmps13
 go_wp2_with fail
 go_loopw [19] (fun i wr=>∃ (k:Nat) (m:List Nat),k<=n/\i = .int .i64 (k:Int)/\Hid (m=(ps.take k).foldl f l)/\Hid (St wr m)) (fun i _=>n - (intOf i).toNat)
 case atStart=>exact ⟨0,l,by omega,rfl,h_ rfl,HS⟩
 case round=>
  clear c1 HS
  obtain ⟨k,m,hk,rfl,HM,HSm⟩:=hrel
  by_cases hlt:k<n
  ·obtain ⟨ab,ao,hae,hc⟩:=KA.out wr m HSm.out (by omega)
   subst hae
   have hk2:k<ps.length:=by rw[<-HN.out];exact hlt
   have c0:=hc k hk2
   have HNX:Hid ((ps.take (k+1)).foldl f l=f m ps[k]):=h_ (by rw[qok_ f l ps k hk2,<-HM.out])
   generalize ps[k]=x at *
   clear hc hk2 HM
   obtain ⟨j,th,is,K1,K2,F1,F2⟩:=KR.out wr m x HSm.out
   replace K1:=h_ K1
   replace K2:=h_ K2
   have HF1:=h_ F1
   have HF2:=h_ F2
   clear F1 F2
   cases th
   case true=>
    have HF:Hid (f m x=m):=h_ (HF1.out (.inl (by simp)))
    clear HF1 HF2 K2
    go_wp2_with fail
    refine (K1.out _ (Below.refl _ _)).mono ?_
    rintro e v1 ⟨rfl,hb1⟩
    clear K1 c0
    go_wp2_with fail
    go_roundw
    case rel=>exact ⟨k+1,m,by omega,by go_num,h_ (by rw[HNX.out,HF.out]),h_ (KB.out _ _ _ HSm.out hb1)⟩
    case measure=>simp[intOf];omega
   case false=>
    cases is
    case false=>
     have HF:Hid (f m x=m):=h_ (HF1.out (.inr (by simp)))
     clear HF1 HF2
     go_wp2_with fail
     refine (K1.out _ (Below.refl _ _)).mono ?_
     rintro e v1 ⟨rfl,hb1⟩
     go_wp2_with fail
     refine (K2.out _ hb1).mono ?_
     rintro e v2 ⟨rfl,hb2⟩
     replace hb1:=tb_ hb1 hb2
     clear hb2
     clear K1 K2 c0
     go_wp2_with fail
     go_roundw
     case rel=>exact ⟨k+1,m,by omega,by go_num,h_ (by rw[HNX.out,HF.out]),h_ (KB.out _ _ _ HSm.out hb1)⟩
     case measure=>simp[intOf];omega
    case true=>
     clear HF1
     go_wp2_with fail
     refine (K1.out _ (Below.refl _ _)).mono ?_
     rintro e v1 ⟨rfl,hb1⟩
     go_wp2_with fail
     refine (K2.out _ hb1).mono ?_
     rintro e v2 ⟨rfl,hb2⟩
     replace hb1:=tb_ hb1 hb2
     clear hb2
     clear K1 K2 c0
     obtain ⟨ad3,c3,c1,KI⟩:=HF2.out (by simp) (by simp) _ hb1
     have HI:=h_ KI
     clear KI HF2
     have hmk:=fun w=>qbs_ w x
     go_wp2_with fail
     refine (HI.out _ v2.heap.size ((Below.refl _ _).alloc (Nat.le_refl _) _) (Nat.le_refl _) (Has.new _ _)).mono ?_
     rintro e v3 ⟨ad4,n4,c4,u,rfl,hcell,hfree,hst⟩
     have HST:=h_ hst
     clear hst HI c1 hmk
     go_wp2_with (first|(with_reducible refine qkz_ rfl _ _ rfl ⟨s,1,none⟩ _ _ _ _ rfl rfl hfree hcell ?_))
     go_roundw
     case rel=>exact ⟨k+1,f m x,by omega,by go_num,h_ HNX.out.symm,HST⟩
     case measure=>simp[intOf];omega
  ·obtain rfl:k=n:=by omega
   obtain ⟨hm9,ad2,c2,c1⟩:=KL.out wr m HSm.out
   have HE:m=R:=by rw[HM.out,HN.out,List.take_length,HR.out]
   subst HE
   clear HM
   obtain ⟨M,hM⟩:∃ M,M=m.length:=⟨_,rfl⟩
   rw[<-hM] at c1 hm9
   have wz:IntKind.i64.wrap ((M:Int) - (L:Int))=z:=by rw[IntKind.wrap_i64];have:=HZ.out;omega
   clear hM
   go_wp2_with fail
   go_ret
   exact ⟨rfl,HSm.out⟩
theorem drop_w (s:Nat) (a:Option Addr) (n c:Nat) (ps:List Int) (HN:Hid (n=ps.length)) (hn2:n<=1000) (St:World->List Nat->Prop) (f:List Nat->Int->List Nat) (l:List Nat) (w:World) (HS:Hid (St w l)) (KB:Hid (∀wr wr' m,St wr m->Below wr.heap.size wr wr'->St wr' m)) (KL:Hid (∀wr m,St wr m->m.length<=900/\∃ ad c,wr.cell? ⟨s,1,none⟩=some (.slice ad m.length c)))
  (KA:Hid (∀wr m,St wr m->0<n->∃ ab ao,a=some ⟨ab,ao,none⟩/\∀ i (hi:i<ps.length),wr.cell? ⟨ab,ao+i,none⟩=some (.int .i64 ps[i]))) (KR:Hid (∀wr m x,St wr m->DropR s St f wr m x)) :
  Calls Tryz.prog 14 #[.pointer (some ⟨s,0,none⟩),.slice a n c] w fun e w'=>e = .returned (.int .i64 ((l.length:Int) - ((ps.foldl f l).length:Int)))/\St w' (ps.foldl f l):=by
 obtain ⟨hl9,ad,cc,c1⟩:=KL.out w l HS.out
 obtain ⟨L,hL⟩:∃ L,L=l.length:=⟨_,rfl⟩
 rw[<-hL] at c1 hl9 |-
 clear hL
 obtain ⟨R,hR⟩:∃ R,R=ps.foldl f l:=⟨_,rfl⟩
 rw[<-hR]
 obtain ⟨z,hz⟩:∃ z:Int,z=(L:Int) - (R.length:Int):=⟨_,rfl⟩
 rw[<-hz]
 have HR:=h_ hR
 have HZ:=h_ hz
 clear hR hz
 go_enter Tryz.func14,Tryz.ntmps14
 go_wp2_with fail
 go_loopw [19] (fun i wr=>∃ (k:Nat) (m:List Nat),k<=n/\i = .int .i64 (k:Int)/\Hid (m=(ps.take k).foldl f l)/\Hid (St wr m)) (fun i _=>n - (intOf i).toNat)
 case atStart=>exact ⟨0,l,by omega,rfl,h_ rfl,HS⟩
 case round=>
  clear c1 HS
  obtain ⟨k,m,hk,rfl,HM,HSm⟩:=hrel
  by_cases hlt:k<n
  ·obtain ⟨ab,ao,hae,hc⟩:=KA.out wr m HSm.out (by omega)
   subst hae
   have hk2:k<ps.length:=by rw[<-HN.out];exact hlt
   have c0:=hc k hk2
   have HNX:Hid ((ps.take (k+1)).foldl f l=f m ps[k]):=h_ (by rw[qok_ f l ps k hk2,<-HM.out])
   generalize ps[k]=x at *
   clear hc hk2 HM
   obtain ⟨j,th,hj,K1,F1,F2⟩:=KR.out wr m x HSm.out
   replace K1:=h_ K1
   have HF1:=h_ F1
   have HF2:=h_ F2
   clear F1 F2
   cases th
   case false=>
    have HF:Hid (f m x=m):=h_ (HF1.out (by simp))
    clear HF1 HF2
    go_wp2_with fail
    refine (K1.out _ (Below.refl _ _)).mono ?_
    rintro e v1 ⟨rfl,hb1⟩
    clear K1 c0
    go_wp2_with fail
    go_roundw
    case rel=>exact ⟨k+1,m,by omega,by go_num,h_ (by rw[HNX.out,HF.out]),h_ (KB.out _ _ _ HSm.out hb1)⟩
    case measure=>simp[intOf];omega
   case true=>
    clear HF1
    go_wp2_with fail
    refine (K1.out _ (Below.refl _ _)).mono ?_
    rintro e v1 ⟨rfl,hb1⟩
    clear K1 c0
    obtain ⟨ad3,c3,c1,KI⟩:=HF2.out (by simp) _ hb1
    obtain ⟨z,hz⟩:∃ z:Int,z=((j+1:Nat):Int):=⟨_,rfl⟩
    have HI:=h_ (KI z hz)
    have wz:IntKind.i64.wrap ((j:Int)+1)=z:=by rw[IntKind.wrap_i64];omega
    clear KI HF2 hz
    go_wp2_with fail
    refine HI.out.mono ?_
    rintro e v3 ⟨ad4,n4,c4,u,rfl,hcell,hfree,hst⟩
    have HST:=h_ hst
    clear hst HI c1 wz
    go_wp2_with (first|(with_reducible refine qkz_ rfl _ _ rfl ⟨s,1,none⟩ _ _ _ _ rfl rfl hfree hcell ?_))
    go_roundw
    case rel=>exact ⟨k+1,f m x,by omega,by go_num,h_ HNX.out.symm,HST⟩
    case measure=>simp[intOf];omega
  ·obtain rfl:k=n:=by omega
   obtain ⟨hm9,ad2,c2,c1⟩:=KL.out wr m HSm.out
   have HE:m=R:=by rw[HM.out,HN.out,List.take_length,HR.out]
   subst HE
   clear HM
   obtain ⟨M,hM⟩:∃ M,M=m.length:=⟨_,rfl⟩
   rw[<-hM] at c1 hm9
   have wz:IntKind.i64.wrap ((L:Int) - (M:Int))=z:=by rw[IntKind.wrap_i64];have:=HZ.out;omega
   clear hM
   go_wp2_with fail
   go_ret
   exact ⟨rfl,HSm.out⟩
def TrR (s:Nat) (x:Int) (v:Value) (k:Nat) (ad:Option Addr) (c:Nat):Nat->Value->Prop
 | 0,u=>u = .pointer (some ⟨s,0,none⟩)
 | 1,u=>u = .pointer (some ⟨s,0,none⟩)
 | 2,u=>u = .pointer (some ⟨s,0,none⟩)
 | 3,u=>u = .pointer (some ⟨s,1,none⟩)
 | 4,u=>u=v
 | 5,u=>u = .pointer (some ⟨s,0,none⟩)
 | 6,u=>u = .int .i64 x
 | 7,u=>u = .int .i64 (k:Int)
 | 8,u=>u = .slice ad k c
 | 9,u=>u = .pointer (some ⟨s,0,none⟩)
 | 10,u=>u = .pointer (some ⟨s,1,none⟩)
 | _,_=>s=s
theorem sfield1 (w:World) (g:Nat):(Instr.fieldAt 78 (.pointer (some ⟨g,0,none⟩)) 1).run Tryz.prog w = .ok (.pointer (some ⟨g,1,none⟩)) w:=by kernel_rfl
theorem trim_w (s:Nat) (q:Option Addr) (pa ad:Option Addr) (n c k:Nat) (hn:n<=1000) (hk:k<=n) (x:Int) (w:World) (hS:Has w s (stA q (.slice pa n c)) 78) (KA:HK_ w 42 #[.pointer (some ⟨s,0,none⟩),.int .i64 x] (.int .i64 (k:Int))) (KS:Hid (∀w',(Instr.sliceAt 49 (.slice pa n c) none (some (.int .i64 (k:Int))) none).run Tryz.prog w' = .ok (.slice ad k c) w')) :
  Calls Tryz.prog 15 #[.pointer (some ⟨s,0,none⟩),.int .i64 x] w fun e w'=>e = .returned (.int .i64 ((n:Int) - (k:Int)))/\Has w' s (stA q (.slice ad k c)) 78/\Kp (fun i=>i=s) w w':=by
 have c1:=st1 hS
 obtain ⟨z,hz⟩:∃ z:Int,z=(n:Int) - (k:Int):=⟨_,rfl⟩
 rw[<-hz]
 have wz:IntKind.i64.wrap ((n:Int) - (k:Int))=z:=by rw[IntKind.wrap_i64];omega
 have hsl:=Has.lt hS
 clear hz
 go_enter Tryz.func15,Tryz.ntmps15
 go_upto_region 4 with fail
 clear c1
 refine qi_ (by kernel_rfl) (fun w'=>Kp (fun i=>i=s) w w') (fun i v' _=>TrR s x (.slice pa n c) k ad c i v') (fun l _ w'=>Ph 11 (fun w'=>Below w.heap.size w w'/\Has w' s (stA q (.slice pa n c)) 78) (fun w'=>Has w' s (stA q (.slice ad k c)) 78) l w') (fun _ _=>True) (fun _ _=>trivial) (fun _ _ _ _ _ _ h=>h) (by kernel_rfl) (qtp_ _ w) ?_ ?_ ?_
 ·exact fun l hl=>Ph.zero hl ⟨(Below.refl _ _).drew,Has.drew hS⟩
 ·intro i o listed a wx ho' hnl hdep hinv
  have hC:=hinv.c
  have hI:=hinv.i
  have hi:i<12:=(Array.getElem?_eq_some_iff.1 ho').1
  obtain rfl|rfl|rfl|rfl|rfl|rfl|rfl|rfl|rfl|rfl|rfl|rfl:i=0\/i=1\/i=2\/i=3\/i=4\/i=5\/i=6\/i=7\/i=8\/i=9\/i=10\/i=11:=by omega
  all_goals obtain rfl:=Option.some.inj ho'
  ·have hsz:=hz_ hinv 0
   exact dv_ 0 hinv (qa_ rfl) (NN.ql_ rfl) (hinv.old' 0) (hI.keep hsz (by decide))
  ·have hsz:=hz_ hinv 1
   exact dv_ 1 hinv (qa_ rfl) (NN.ql_ rfl) (hinv.old' 0) (hI.keep hsz (by decide))
  ·have hsz:=hz_ hinv 2
   exact dv_ 2 hinv (qa_ rfl) (ex_nil rfl (gd_ hinv hdep 1 14)) rfl (hI.keep hsz (by decide))
  ·have hsz:=hz_ hinv 3
   exact dv_ 3 hinv (qa_ rfl) (qae_ rfl (gd_ hinv hdep 2 15) (sfield1 wx s)) rfl (hI.keep hsz (by decide))
  ·have hsz:=hz_ hinv 4
   have hnK:=ah_ hinv hnl 11
   have hpre:=hI.pre hnK hsz (by decide)
   exact dv_ 4 hinv (qa_ rfl) (qec_ rfl (gd_ hinv hdep 3 16) (st1 hpre.2)) rfl (hI.keep hsz (by decide))
  ·have hsz:=hz_ hinv 5
   exact dv_ 5 hinv (qa_ rfl) (NN.ql_ rfl) (hinv.old' 0) (hI.keep hsz (by decide))
  ·have hsz:=hz_ hinv 6
   exact dv_ 6 hinv (qa_ rfl) (NN.ql_ rfl) (hinv.old' 1) (hI.keep hsz (by decide))
  ·have hsz:=hz_ hinv 7
   have hnK:=ah_ hinv hnl 11
   have hpre:=hI.pre hnK hsz (by decide)
   exact dC_ (S:=T2_) 7 hinv (qa_ rfl) (f:=42) (args:=#[a.eval (.tmp 18),a.eval (.tmp 19)]) (by kernel_rfl) (by rw[show a.eval (.tmp 18)=_ from (gd_ hinv hdep 5 18)];rw[show a.eval (.tmp 19)=_ from (gd_ hinv hdep 6 19)];  exact KA.out wx hpre.1) (fun w' hb=>⟨hC.trans (Kp.of (F:=fun i=>i=s) hb) (fun _ h _=>h),trivial,rfl,Ph.made hnK (⟨tb_ hpre.1 hb,qd_ hb hpre.2 (Has.lt hpre.2)⟩)⟩)
  ·have hsz:=hz_ hinv 8
   exact dv_ 8 hinv (qa_ rfl) (qiw_ rfl (gd_ hinv hdep 4 17) (gd_ hinv hdep 7 20) (KS.out wx)) rfl (hI.keep hsz (by decide))
  ·have hsz:=hz_ hinv 9
   exact dv_ 9 hinv (qa_ rfl) (ex_nil rfl (gd_ hinv hdep 0 13)) rfl (hI.keep hsz (by decide))
  ·have hsz:=hz_ hinv 10
   exact dv_ 10 hinv (qa_ rfl) (qae_ rfl (gd_ hinv hdep 9 22) (sfield1 wx s)) rfl (hI.keep hsz (by decide))
  ·have hsz:=hz_ hinv 11
   have hR0:=hI.1 hnl
   exact ds_ 11 hinv (qa_ rfl) (qdk_ rfl (gd_ hinv hdep 10 23) (gd_ hinv hdep 8 21) (Has.free hR0.2 1) (st1 hR0.2)) (hC.trans (Kp.gb (F:=fun i=>i=s) (qbh_ wx s 1 _) (fun k hk=>(Option.some.inj hk).symm)) (fun _ h _=>h)) rfl (Ph.last hsz (st_set hR0.2 _))
 intro listed a' v9 hall hinv
 have hK:=hinv.c
 have hS9:=hinv.i.2 (hall 11 (by decide))
 have e0:a'.eval (.tmp 0) = .pointer (some ⟨s,0,none⟩):=hinv.old' 0
 have e5:a'.eval (.tmp 5) = .int .i64 (n:Int):=hinv.old' 5
 obtain ⟨u,hu⟩:∃ u:Nat->Value,∀ t,u t=a'.eval (.tmp t):=⟨_,fun _=>rfl⟩
 rw[qau_ a' 31 u hinv.tsize hinv.defers hu]
 rw[<-hu] at e0 e5
 clear hu hinv hall
 simp only[List.range,List.range.loop,List.map_cons,List.map_nil]
 rw[e0,e5]
 clear e0 e5
 have c1:=st1 hS9
 go_wp2_with fail
 go_ret
 exact ⟨rfl,hS9,hK⟩
theorem slen_w (s n c:Nat) (q a:Option Addr) (w:World) (hS:Has w s (stA q (.slice a n c)) 78):Ca_ 19 #[.pointer (some ⟨s,0,none⟩)] w (.int .i64 (n:Int)):=by
 have c1:=st1 hS
 have hB:=Below.refl w.heap.size w
 clear hS
 go_enter Tryz.func19,Tryz.ntmps19
 go_wp2_with fail
 go_ret
 exact ⟨rfl,hB⟩
theorem qux_ (w:World):Ca_ 19 #[.pointer none] w (.int .i64 0):=by
 have hB:=Below.refl w.heap.size w
 go_enter Tryz.func19,Tryz.ntmps19
 go_wp2_with fail
 go_ret
 exact ⟨rfl,hB⟩
theorem qzc_ (s n c g:Nat) (q:Option Addr) (x:Int) (w:World) (hS:Has w s (stA q (.slice (some ⟨g,0,none⟩) n c)) 78) (hn:0<n) (hx:w.cell? ⟨g,0,none⟩=some (.int .i64 x)):Ca_ 20 #[.pointer (some ⟨s,0,none⟩)] w (.int .i64 x):=by
 have KL:=h_ (slen_w s n c q _ w hS)
 have c1:=st1 hS
 have hB:=Below.refl w.heap.size w
 have h0:((n:Int)==0)=false:=by rw[beq_eq_false_iff_ne];omega
 clear hS
 go_enter Tryz.func20,Tryz.ntmps20
 go_wp2_with fail
 refine KL.out.mono ?_
 rintro e v1 ⟨rfl,hb⟩
 replace hB:=tb_ hB hb
 have c2:=(hb.cell (p:=⟨s,1,none⟩) (block_lt_of_cell c1)).trans c1
 have c3:=(hb.cell (p:=⟨g,0,none⟩) (block_lt_of_cell hx)).trans hx
 clear hb c1 hx KL
 go_wp2_with fail
 go_ret
 exact ⟨rfl,hB⟩
theorem qol_ (p:Value) (w:World) (KL:Hid (Ca_ 19 #[p] w (.int .i64 0))):Ca_ 20 #[p] w (.int .i64 (-1)):=by
 go_enter Tryz.func20,Tryz.ntmps20
 go_wp2_with fail
 refine KL.out.mono ?_
 rintro e v1 ⟨rfl,hb⟩
 go_wp2_with fail
 go_ret
 exact ⟨rfl,hb⟩
theorem shas_w (s k:Nat) (x:Int) (g:Bool) (w:World) (KS:Hid (Calls Tryz.prog 38 #[.pointer (some ⟨s,0,none⟩),.int .i64 x] w fun e w''=>e = .returned (.tuple #[.int .i64 (k:Int),.bool g])/\Below w.heap.size w w'')):Ca_ 21 #[.pointer (some ⟨s,0,none⟩),.int .i64 x] w (.bool g):=by
 go_enter Tryz.func21,Tryz.ntmps21
 go_wp2_with fail
 refine KS.out.mono ?_
 rintro e v1 ⟨rfl,hb⟩
 go_wp2_with fail
 go_ret
 exact ⟨rfl,hb⟩
theorem all_w (s:Nat) (q:Option Addr) (v:Value) (hv:∃ a n c,v = .slice a n c) (P:World->World->Value->Prop) (w:World) (hS:Has w s (stA q v) 78) (KC:Hid (Calls Tryz.prog 45 #[v] w fun e w'=>∃ v',e = .returned v'/\P w w' v')):Calls Tryz.prog 18 #[.pointer (some ⟨s,0,none⟩)] w fun e w'=>∃ v',e = .returned v'/\P w w' v':=by
 have c1:=st1 hS
 obtain ⟨a,n,c,rfl⟩:=hv
 clear hS
 go_enter Tryz.func18,Tryz.ntmps18
 go_wp2_with fail
 refine KC.out.mono ?_
 rintro e v1 ⟨v',rfl,hp⟩
 have HP:=h_ hp
 clear hp c1
 go_wp2_with fail
 go_ret
 exact ⟨v',rfl,HP.out⟩
theorem qzd_ (q:Option Addr):Tryz.prog.built 78 [(0,.pointer q)]=some (stA q (.slice none 0 0)):=by kernel_rfl
theorem snew_w (q:Option Addr) (w:World):Calls Tryz.prog 10 #[.pointer q] w fun e w'=>e = .returned (.pointer (some ⟨w.heap.size,0,none⟩))/\w'=w.alloc (.cells (stA q (.slice none 0 0)) 78):=by
 have hbu:=qzd_ q
 go_enter Tryz.func10,Tryz.ntmps10
 go_wp2_with fail
 go_ret
 exact ⟨rfl,rfl⟩
end Go.Proofs.YtbgjiplfaolpjaaGreatDoor.An
namespace Go.Proofs.YtbgjiplfaolpjaaGreatDoor.An
open Go.RowKit Mem Sc
open Ar (Ent Ru entZ Ok isP)
open Tp (Tot Srt spot ins)
def wtM (r:Ru) (M:List Ent) (i:Nat):Nat:=wkOf r (M.getD i entZ).hs
def Hv (r:Ru) (M:List Ent):Nat->Nat->Bool:=Tp.byW (wtM r M)
theorem Hv_tot (r:Ru) (M:List Ent):Tot (Hv r M):=Tp.byW_tot _
theorem wtM_at {r:Ru} {M:List Ent} {i:Nat} {e:Ent} (he:M[i]?=some e):wtM r M i=wkOf r e.hs:=by
 unfold wtM;rw[List.getD_eq_getElem?_getD,he];rfl
theorem hvb_byW (f:Nat->Nat) (x y:Nat):hvb (f x) (f y) x y=Tp.byW f x y:=by
 unfold hvb Tp.byW NN.Nm.cmp
 rcases Nat.lt_trichotomy (f x) (f y) with h|h|h
 ·have h1:¬f y<f x:=by omega
  have h2:¬f x=f y:=by omega
  simp[h,h1,h2]
 ·simp[h]
 ·have h1:¬f x<f y:=by omega
  simp[h,h1]
theorem HvI.place {r:Ru} {M:List Ent} {x y:Nat} (hx:x<M.length) (hy:y<M.length):HvI r M (x:Int) (y:Int) (Hv r M x y):=by
 refine .inr (.inr ⟨x,y,M[x],M[y],rfl,rfl,List.getElem?_eq_getElem hx,List.getElem?_eq_getElem hy,?_⟩)
 unfold Hv
 rw[<-hvb_byW,wtM_at (List.getElem?_eq_getElem hx),wtM_at (List.getElem?_eq_getElem hy)]
def zs (l:List Nat):List Int:=l.map fun (k:Nat)=>(k:Int)
theorem qabf_ (w:World):RowI w (.slice none 0 0) []:=World.ownsRow_nil _ _ _ _
theorem qaa_ (l:List Nat):(zs l).length=l.length:=List.length_map ..
theorem zs_get (l:List Nat) (i:Nat) (hi:i<(zs l).length):(zs l)[i]=((l[i]'(by rwa [qaa_] at hi):Nat):Int):=by simp[zs]
structure InS (r:Ru) (M:List Ent) (l:List Nat):Prop where
 srt:Srt (Hv r M) l
 lt:∀ x ∈ l,x<M.length
theorem InS.nil (r:Ru) (M:List Ent):InS r M []:=⟨Srt.nil _,fun x h=>by simp at h⟩
theorem qze_ {n:Nat}:∀ {l:List Nat},l.Nodup->(∀x ∈ l,x<n)->l.length<=n:=by
 intro l hn hl
 have:=List.Nodup.length_le_of_subset hn (fun x hx=>List.mem_range.2 (hl x hx))
 rwa [List.length_range] at this
theorem InS.few {r:Ru} {M:List Ent} {l:List Nat} (h:InS r M l):l.length<=M.length:=qze_ (h.srt.nodup (Hv_tot r M)) h.lt
def TreeQ (w:World) (F:Nat->Prop) (q:Option Addr) (r:Ru) (M:List Ent):Prop:=(∃bt ls,q=some ⟨bt,0,none⟩/\TrS w F bt r M ls)\/(q=none/\M=[])
def SetS (w:World) (G:Nat->Prop) (s:Nat) (q:Option Addr) (l:List Nat):Prop :=
 (∀i,G i->i<w.heap.size)/\∃ v,Has w s (stA q v) 78/\RowI w v (zs l)/\G s/\(∀i,v.ownBlock=some i->G i)/\∀ i,v.ownBlock=some i->i ≠ s
section
variable {w w':World} {F G:Nat->Prop} {s:Nat} {q:Option Addr} {r:Ru} {M:List Ent} {l:List Nat}
theorem TreeQ.on {D:Nat->Prop} (h:TreeQ w F q r M) (k:Kp D w w') (hD:∀ i,F i->¬D i):TreeQ w' F q r M :=
 h.imp (fun ⟨bt,ls,e,hS⟩=>⟨bt,ls,e,hS.on k hD⟩) id
theorem TreeQ.below (h:TreeQ w F q r M) (hb:Below w.heap.size w w'):TreeQ w' F q r M:=h.on (D:=fun _=>False) (Kp.of hb) fun _ _ hf=>hf
theorem SetS.on {D:Nat->Prop} (h:SetS w G s q l) (k:Kp D w w') (hD:∀ i,G i->¬D i):SetS w' G s q l:=by
 obtain ⟨h0,v,h1,h2,h3,h4,h5⟩:=h
 exact ⟨fun i hi=>Nat.lt_of_lt_of_le (h0 i hi) k.size,v,k.has h1 (hD s h3),kp_row h2 k fun i hi=>hD i (h4 i hi),h3,h4,h5⟩
theorem SetS.below (h:SetS w G s q l) (hb:Below w.heap.size w w'):SetS w' G s q l:=h.on (D:=fun _=>False) (Kp.of hb) fun _ _ hf=>hf
theorem SetS.wide {G':Nat->Prop} (h:SetS w G s q l) (hG:∀ i,G i->G' i) (hl:∀ i,G' i->i<w.heap.size):SetS w G' s q l:=by
 obtain ⟨h0,v,h1,h2,h3,h4,h5⟩:=h
 exact ⟨hl,v,h1,h2,hG s h3,fun i hi=>hG i (h4 i hi),h5⟩
theorem qbt_ {v:Value} {l:List Int} (h:RowI w v l):∃ a c,v = .slice a l.length c/\CellsI w a l:=by
 rcases qdt_ h with ⟨rfl,rfl⟩|⟨g,c,S,rfl,hg,hc,hm⟩
 ·exact ⟨none,0,rfl,fun i hi=>by simp at hi⟩
 ·refine ⟨some ⟨g,0,none⟩,c,rfl,fun i hi=>⟨g,rfl,?_⟩⟩
  rw[hg.cell i,List.getElem?_toArray,List.getElem?_append_left (by simpa using hi),List.getElem?_map,List.getElem?_eq_getElem hi]
  rfl
theorem TreeQ.heavier (h:TreeQ w F q r M) (x y:Int) (g:Bool) (hg:HvI r M x y g):Ca_ 22 #[.pointer q,.int .i64 x,.int .i64 y] w (.bool g):=by
 rcases h with ⟨bt,ls,rfl,hS⟩|⟨rfl,rfl⟩
 ·exact qqe_ hS x y g hg
 ·have:g=false:=by
   rcases hg with ⟨_,h⟩|⟨h,_⟩|⟨n,m,e,d,_,_,h,_⟩
   ·exact h
   ·exact absurd (Int.lt_of_le_of_lt h.1 h.2) (Int.lt_irrefl _)
   ·simp at h
  subst this
  exact qmm_ x y w
theorem TreeQ.at (h:TreeQ w F q r M) (x:Int):∃ e:En,e.ok/\∀ w',Below w.heap.size w w'->Calls Tryz.prog 30 #[.pointer q,.int .i64 x] w' fun u w''=>u = .returned (.tuple #[.agg (enA e),.bool (decide (0<=x/\x<(M.length:Int)))])/\Below w'.heap.size w' w'':=by
 rcases h with ⟨bt,ls,rfl,hS⟩|⟨rfl,rfl⟩
 ·by_cases hx:0<=x/\x<(M.length:Int)
  ·obtain ⟨n,rfl⟩:=Int.eq_ofNat_of_zero_le hx.1
   have hn:n<M.length:=by omega
   obtain ⟨Fa,ab,k1,k2⟩:=hS.parts
   refine ⟨_,qgv_ k2 (List.getElem?_eq_getElem hn),fun w' hb=>?_⟩
   rw[decide_eq_true hx]
   exact tat_at (hS.below hb) (List.getElem?_eq_getElem hn) _ rfl
  ·refine ⟨enN,enN_ok,fun w' hb=>?_⟩
   rw[decide_eq_false hx]
   exact qur_ (hS.below hb) x hx
 ·refine ⟨enN,enN_ok,fun w' _=>?_⟩
  rw[decide_eq_false (fun h=>absurd (Int.lt_of_le_of_lt h.1 h.2) (Int.lt_irrefl _))]
  exact tat_nil x w'
end
def isIn (l:List Nat) (x:Int):Bool:=decide (0<=x) && decide (x.toNat ∈ l)
theorem qcl_ (l:List Nat) (k:Nat):isIn l (k:Int)=decide (k ∈ l):=by simp[isIn]
def skp (r:Ru) (M:List Ent) (l:List Nat) (x:Int):Nat:=if 0<=x/\x<(M.length:Int) then spot (Hv r M) l x.toNat else l.length
theorem qeq_ {r:Ru} {M:List Ent} {l:List Nat} (h:InS r M l) {x:Int} (hx:isIn l x=true):0<=x/\x<(M.length:Int):=by
 unfold isIn at hx
 simp only[Bool.and_eq_true,decide_eq_true_eq] at hx
 have:=h.lt _ hx.2
 omega
section
variable {w:World} {F G:Nat->Prop} {s:Nat} {q:Option Addr} {r:Ru} {M:List Ent} {l:List Nat}
theorem quy_ (hQ:TreeQ w F q r M) (hS:SetS w G s q l) (hI:InS r M l) (hM:M.length<=900) (x:Int) :
  Ca_ 38 #[.pointer (some ⟨s,0,none⟩),.int .i64 x] w (.tuple #[.int .i64 (skp r M l x:Int),.bool (isIn l x)]):=by
 obtain ⟨_,v,h1,h2,_⟩:=hS
 obtain ⟨a,c,rfl,hC⟩:=qbt_ h2
 have hf:=hI.few
 have ht:=Hv_tot r M
 by_cases hx:0<=x/\x<(M.length:Int)
 ·obtain ⟨n,rfl⟩:=Int.eq_ofNat_of_zero_le hx.1
  have hn:n<M.length:=by omega
  have ek:skp r M l (n:Int)=spot (Hv r M) l n:=by unfold skp;rw[if_pos hx,Int.toNat_natCast]
  rw[ek]
  have hsl:=Tp.qkd_ (Hv r M) l n
  have hz:=qaa_ l
  refine seek_w s q a (zs l) (zs l).length c (n:Int) (spot (Hv r M) l n) (fun i=>!(Hv r M (l.getD i 0) n)) rfl (by omega) (by omega) (h_ fun i hi=>?_) (h_ fun i hi hil=>?_) _ (h_ fun h=>?_) (fun h=>?_) w h1 hC (h_ fun w' i hi hb=>?_)
  ·have:=Tp.qen_ (H:=Hv r M) (x:=n) (l:=l) (i:=i) (by omega) hi
   rw[List.getD_eq_getElem?_getD,List.getElem?_eq_getElem (by omega)]
   simp[this]
  ·have:=Tp.qhw_ ht hI.srt (x:=n) (i:=i) (by omega) hi
   rw[List.getD_eq_getElem?_getD,List.getElem?_eq_getElem (by omega)]
   simp[this]
  ·rw[qcl_,zs_get]
   have hm:=Tp.qsy_ ht hI.srt (x:=n)
   have hl:spot (Hv r M) l n<l.length:=by rw[<-hz];exact h
   rw[Bool.eq_iff_iff,beq_iff_eq,decide_eq_true_iff,hm]
   exact ⟨fun e=>⟨hl,by omega⟩,fun ⟨_,e⟩=>by omega⟩
  ·rw[qcl_,decide_eq_false_iff_not,Tp.qsy_ ht hI.srt]
   rintro ⟨hl,_⟩
   omega
  ·have hil:i<l.length:=by rw[<-hz];exact hi
   rw[zs_get,Bool.not_not,List.getD_eq_getElem?_getD,List.getElem?_eq_getElem hil]
   exact (hQ.below hb).heavier _ _ _ (HvI.place (hI.lt _ (List.getElem_mem hil)) hn)
 ·have ei:isIn l x=false:=by
   cases e:isIn l x with
   | false=>rfl
   | true=>exact absurd (qeq_ hI e) hx
  have ek:skp r M l x=l.length:=by unfold skp;rw[if_neg hx]
  rw[ei,ek]
  have hz:=qaa_ l
  refine seek_w s q a (zs l) (zs l).length c x l.length (fun i=>false) rfl (by omega) (by omega) (h_ fun i hi=>rfl) (h_ fun i hi hil=>by omega) _ (h_ fun h=>by omega) (fun h=>rfl) w h1 hC (h_ fun w' i hi hb=>?_)
  have hil:i<l.length:=by rw[<-hz];exact hi
  have hlt:=hI.lt _ (List.getElem_mem hil)
  rw[zs_get]
  exact (hQ.below hb).heavier _ _ _ (.inr (.inl ⟨⟨by omega,by omega⟩,hx,rfl⟩))
def abv (r:Ru) (M:List Ent) (l:List Nat) (x:Int):Nat:=if 0<=x/\x<(M.length:Int) then Tp.keepN (Hv r M) l x.toNat else l.length
theorem quz_ (H:Nat->Nat->Bool) (l:List Nat) (x:Nat):Tp.keepN H l x<=l.length:=(List.takeWhile_sublist _).length_le
theorem qib_ {H:Nat->Nat->Bool} {x:Nat}:∀ {l:List Nat} {i:Nat} (h:i<l.length),i<Tp.keepN H l x->H x l[i]=false
 | [],i,h,_=>by simp at h
 | a :: l,i,h,hi=>by
  cases e:H x a with
  | true=>simp[Tp.keepN,e] at hi
  | false=>
   cases i with
   | zero=>simpa using e
   | succ i=>
    simp[Tp.keepN,e] at hi
    simpa using qib_ (H:=H) (x:=x) (l:=l) (i:=i) (by simpa using h) hi
theorem qgz_ {H:Nat->Nat->Bool} (t:Tot H) {x:Nat}:∀ {l:List Nat},Srt H l->∀ {i:Nat} (h:i<l.length),Tp.keepN H l x<=i->H x l[i]=true
 | [],_,i,h,_=>by simp at h
 | a :: l,hs,i,h,hi=>by
  have hc:=List.pairwise_cons.1 hs
  cases e:H x a with
  | true=>
   cases i with
   | zero=>simpa using e
   | succ i=>
    have:=hc.1 (l[i]'(by simpa using h)) (List.getElem_mem _)
    simpa using t.trans _ _ _ e this
  | false=>
   cases i with
   | zero=>simp[Tp.keepN,e] at hi
   | succ i=>
    simp[Tp.keepN,e] at hi
    simpa using qgz_ t (x:=x) hc.2 (i:=i) (by simpa using h) hi
theorem abv_le {x:Int}:abv r M l x<=l.length:=by
 unfold abv;split
 ·exact quz_ _ _ _
 ·exact Nat.le_refl _
theorem qva_ (hQ:TreeQ w F q r M) (hS:SetS w G s q l) (hI:InS r M l) (hM:M.length<=900) (x:Int) :
  Ca_ 42 #[.pointer (some ⟨s,0,none⟩),.int .i64 x] w (.int .i64 (abv r M l x:Int)):=by
 obtain ⟨_,v,h1,h2,_⟩:=hS
 obtain ⟨a,c,rfl,hC⟩:=qbt_ h2
 have hf:=hI.few
 have ht:=Hv_tot r M
 have hz:=qaa_ l
 by_cases hx:0<=x/\x<(M.length:Int)
 ·obtain ⟨n,rfl⟩:=Int.eq_ofNat_of_zero_le hx.1
  have hn:n<M.length:=by omega
  have ek:abv r M l (n:Int)=Tp.keepN (Hv r M) l n:=by unfold abv;rw[if_pos hx,Int.toNat_natCast]
  rw[ek]
  have hsl:=quz_ (Hv r M) l n
  refine qabe_ s q a (zs l) (zs l).length c (n:Int) (Tp.keepN (Hv r M) l n) (fun i=>Hv r M n (l.getD i 0)) rfl (by omega) (by omega) (h_ fun i hi=>?_) (h_ fun i hi hil=>?_) w h1 hC (h_ fun w' i hi hb=>?_)
  ·have:=qib_ (H:=Hv r M) (x:=n) (l:=l) (i:=i) (by omega) hi
   rw[List.getD_eq_getElem?_getD,List.getElem?_eq_getElem (by omega)]
   exact this
  ·have:=qgz_ ht (x:=n) hI.srt (i:=i) (by omega) hi
   rw[List.getD_eq_getElem?_getD,List.getElem?_eq_getElem (by omega)]
   exact this
  ·have hil:i<l.length:=by rw[<-hz];exact hi
   rw[zs_get,List.getD_eq_getElem?_getD,List.getElem?_eq_getElem hil]
   exact (hQ.below hb).heavier _ _ _ (HvI.place hn (hI.lt _ (List.getElem_mem hil)))
 ·have ek:abv r M l x=l.length:=by unfold abv;rw[if_neg hx]
  rw[ek]
  refine qabe_ s q a (zs l) (zs l).length c x l.length (fun i=>false) rfl (by omega) (by omega) (h_ fun i hi=>rfl) (h_ fun i hi hil=>by omega) w h1 hC (h_ fun w' i hi hb=>?_)
  exact (hQ.below hb).heavier _ _ _ (.inl ⟨hx,rfl⟩)
theorem has_is (hQ:TreeQ w F q r M) (hS:SetS w G s q l) (hI:InS r M l) (hM:M.length<=900) (x:Int):Ca_ 21 #[.pointer (some ⟨s,0,none⟩),.int .i64 x] w (.bool (isIn l x)) :=
 shas_w s _ x _ w (h_ (quy_ hQ hS hI hM x))
theorem qvb_ (hS:SetS w G s q l):Ca_ 19 #[.pointer (some ⟨s,0,none⟩)] w (.int .i64 (l.length:Int)):=by
 obtain ⟨_,v,h1,h2,_⟩:=hS
 obtain ⟨a,c,rfl,hC⟩:=qbt_ h2
 rw[qaa_] at h1
 exact slen_w s _ c q a w h1
def bestI:List Nat->Int
 | []=>-1
 | k :: _=>(k:Int)
theorem qabg_ (hS:SetS w G s q l):Ca_ 20 #[.pointer (some ⟨s,0,none⟩)] w (.int .i64 (bestI l)):=by
 cases l with
 | nil=>exact qol_ _ w (h_ (qvb_ hS))
 | cons k l=>
  obtain ⟨_,v,h1,h2,_⟩:=hS
  obtain ⟨a,c,rfl,hC⟩:=qbt_ h2
  obtain ⟨g,rfl,hg⟩:=hC 0 (by rw[qaa_];simp)
  exact qzc_ s _ c g q _ w h1 (by rw[qaa_];simp) hg
theorem all_at (hS:SetS w G s q l) (hl:l.length<=1000):Calls Tryz.prog 18 #[.pointer (some ⟨s,0,none⟩)] w fun e w'=>∃ v',e = .returned v'/\RowI w' v' (zs l)/\(∀k,v'.ownBlock=some k->w.heap.size<=k)/\Below w.heap.size w w':=by
 obtain ⟨_,v,h1,h2,_⟩:=hS
 obtain ⟨a,c,e,_⟩:=qbt_ h2
 exact all_w s q v ⟨a,_,c,e⟩ (fun w w' v'=>RowI w' v' (zs l)/\(∀k,v'.ownBlock=some k->w.heap.size<=k)/\Below w.heap.size w w') w h1 (h_ (qaer_ h2 (by rw[qaa_];exact hl)))
theorem qvc_ (q:Option Addr) (w:World):Calls Tryz.prog 10 #[.pointer q] w fun e w'=>∃ s,e = .returned (.pointer (some ⟨s,0,none⟩))/\w.heap.size<=s/\SetS w' (fun i=>i=s) s q []/\Below w.heap.size w w':=by
 refine (snew_w q w).mono ?_
 rintro e w' ⟨rfl,rfl⟩
 refine ⟨_,rfl,Nat.le_refl _,⟨fun i hi=>?_,.slice none 0 0,Has.new _ _,qabf_ _,rfl,fun i hi=>?_,fun i hi=>?_⟩,(Below.refl _ _).alloc (Nat.le_refl _) _⟩
 ·rw[hi];simp
 ·cases hi
 ·cases hi
end
end Go.Proofs.YtbgjiplfaolpjaaGreatDoor.An
namespace Go.Proofs.YtbgjiplfaolpjaaGreatDoor.An
open Go.RowKit Mem Sc
open Ar (Ent Ru entZ Ok isP)
set_option maxRecDepth 100000
theorem qmo_ {w:World} {ops:Array Oper} {rest:List Oper} {o:Oper} {a:Act} {Q:Exit->Act->World->Prop} (hgd:o.guard=none) (x:Operand) (ho:o.op = .load 26 x) (g off:Nat) (hx:a.eval x = .pointer (some ⟨g,off,none⟩)) (z:Nat) (hg:w.rangeAt g off (NN.numC z).toList)
  (hk:wpList Tryz.prog ops Q rest (a.put o.dst (.agg (NN.numC z))) w):wpList Tryz.prog ops Q (o :: rest) a w :=
 wpList_load_mid hgd 26 x ho g off hx (NN.numC z).toList _ hg Tryz.underlying26 rfl (NN.infoNum.trans (by rw[Array.length_toList,NN.qat_])) hk
theorem rwork_w (b g n c j z:Nat) (hj:j<n) (w:World) (hv:w.cell? ⟨b,86,none⟩=some (.slice (some ⟨g,0,none⟩) n c)) (hr:w.rangeAt g (j*4) (NN.numC z).toList) :
  Ca_ 43 #[.pointer (some ⟨b,0,none⟩),.int .i64 (j:Int)] w (.agg (NN.numC z)):=by
 go_enter Tryz.func43,Tryz.ntmps43
 go_upto_region 1 with fail
 generalize hw0:World.alloc _ _=v0
 have hR:NN.Has v0 w.heap.size (NN.numC 0) 26:=by rw[<-hw0];exact NN.Has.newz _
 have hbel:Below w.heap.size w v0:=bl_ hw0
 clear hw0
 have c1:=(hbel.cell (p:=⟨b,86,none⟩) (block_lt_of_cell hv)).trans hv
 have r1:=qam_ hr hbel (by rw[Array.length_toList,NN.qat_];decide)
 clear hv hr
 go_wp2_with (with_reducible first|refine qmo_ rfl _ rfl g (j*4) rfl z r1 ?_|refine NN.qc_ rfl _ _ rfl _ _ rfl rfl _ hR rfl ?_)
 exact bodyPost_ret (v:=.agg (NN.numC z)) (NN.qh_ Tryz.results43 _ _ _ rfl (hR.row _)) rfl ⟨rfl,below_setRow hbel (Nat.le_refl _) _⟩
theorem qvd_ (bm x y zx zy:Nat) (w:World) (KX:HK_ w 43 #[.pointer (some ⟨bm,0,none⟩),.int .i64 (x:Int)] (.agg (NN.numC zx))) (KY:HK_ w 43 #[.pointer (some ⟨bm,0,none⟩),.int .i64 (y:Int)] (.agg (NN.numC zy))) (g1 g2 g3:Bool) (KL:HG_ 44 #[.agg (NN.numC zy),.agg (NN.numC zx)] (.bool g1)) (hq:∀ w',(binOp .eql 26 (.agg (NN.numC zx)) (.agg (NN.numC zy))).run Tryz.prog w' = .ok (.bool g2) w') (h3:decide (x<y)=g3) :
  Ca_ 16 #[.pointer (some ⟨bm,0,none⟩),.int .i64 (x:Int),.int .i64 (y:Int)] w (.bool (g1 || (g2 && g3))):=by
 have hbel:=Below.refl w.heap.size w
 have h3':decide ((x:Int)<(y:Int))=g3:=by rw[<-h3];exact decide_eq_decide.2 (by omega)
 go_enter Tryz.func16,Tryz.ntmps16
 go_wp2_with (first|fail)
 refine (KX.out _ hbel).mono ?_
 rintro e v1 ⟨rfl,hb1⟩
 replace hbel:=tb_ hbel hb1
 clear hb1
 go_upto_region 2 with (first|(with_reducible refine NN.qc_ rfl _ _ rfl _ _ rfl rfl _ (NN.Has.newz _) rfl ?_))
 generalize hw2:World.setRow _ _ _=v2
 have hb2:Below v1.heap.size v1 v2:=bw_ hw2
 have h7:NN.Has v2 v1.heap.size (NN.numC zx) 26:=by rw[<-hw2];exact (NN.Has.newz _).row _
 replace hbel:=tb_ hbel hb2
 clear hw2 hb2
 obtain ⟨b_h7,e_h7⟩:∃ x,x=v1.heap.size:=⟨_,rfl⟩
 rw[<-e_h7] at h7 |-
 clear e_h7
 go_wp2_with (with_reducible first|refine NN.qb_ rfl _ rfl _ rfl _ h7 rfl ?_|refine NN.qe_ (by with_unfolding_all rfl) _ rfl _ rfl _ h7 rfl ?_)
 refine (KY.out _ hbel).mono ?_
 rintro e v3 ⟨rfl,hb3⟩
 replace h7:=NN.Has.on h7 hb3
 replace hbel:=tb_ hbel hb3
 clear hb3
 go_upto_region 3 with (with_reducible first|refine NN.qb_ rfl _ rfl _ rfl _ h7 rfl ?_|refine NN.qe_ (by with_unfolding_all rfl) _ rfl _ rfl _ h7 rfl ?_|refine NN.qc_ rfl _ _ rfl _ _ rfl rfl _ (NN.Has.newz _) rfl ?_)
 generalize hw4:World.setRow _ _ _=v4
 have hb4:Below v3.heap.size v3 v4:=bw_ hw4
 have h8:NN.Has v4 v3.heap.size (NN.numC zy) 26:=by rw[<-hw4];exact (NN.Has.newz _).row _
 replace h7:=NN.Has.on h7 hb4
 replace hbel:=tb_ hbel hb4
 clear hw4 hb4
 obtain ⟨b_h8,e_h8⟩:∃ x,x=v3.heap.size:=⟨_,rfl⟩
 rw[<-e_h8] at h8 |-
 clear e_h8
 go_wp2_with (with_reducible first|refine NN.qb_ rfl _ rfl _ rfl _ (by assumption) rfl ?_|refine NN.qe_ (by with_unfolding_all rfl) _ rfl _ rfl _ (by assumption) rfl ?_)
 refine (KL.out _).mono ?_
 rintro e v5 ⟨rfl,hb5⟩
 replace h7:=NN.Has.on h7 hb5
 replace h8:=NN.Has.on h8 hb5
 replace hbel:=tb_ hbel hb5
 clear hb5
 clear KX KY KL
 cases g1
 case true=>
  go_wp2_with fail
  go_ret
  exact ⟨rfl,hbel⟩
 case false=>
  cases g2
  case false=>
   go_wp2_with (with_reducible first|refine NN.qb_ rfl _ rfl _ rfl _ (by assumption) rfl ?_|refine NN.qe_ (by with_unfolding_all rfl) _ rfl _ rfl _ (by assumption) rfl ?_)
   go_ret
   exact ⟨rfl,hbel⟩
  case true=>
   go_wp2_with (with_reducible first|refine NN.qb_ rfl _ rfl _ rfl _ (by assumption) rfl ?_|refine NN.qe_ (by with_unfolding_all rfl) _ rfl _ rfl _ (by assumption) rfl ?_)
   go_ret
   exact ⟨by first|rfl|(rw[<-h3];simp)|simp[h3],hbel⟩
section
variable {w:World} {B:Nat} {F:Nat->Prop} {bm:Nat} {r:Ru} {M:List Ent}
theorem qix_ (h:RfS w B F bm r M) {j:Nat} {e:Ent} (he:M[j]?=some e):Calls Tryz.prog 43 #[.pointer (some ⟨bm,0,none⟩),.int .i64 (j:Int)] w fun e' w'=>e' = .returned (.agg (NN.numC (wkOf r e.hs)))/\Below w.heap.size w w':=by
 obtain ⟨_,_,_,p,t,vH,vI,vA,vW,ws,h3,_,h5,_⟩:=h
 have rW:=h3.rowW
 have hz:ws[j]?=some (wkOf r e.hs):=by rw[h5,List.getElem?_map,he];rfl
 have hj:=(List.getElem?_eq_some_iff.1 hz).1
 obtain ⟨gW,cW,rfl⟩:=qby_ rW (by omega)
 obtain ⟨A,C,e1,hA⟩:=qep_ (fun z=>(NN.numC z).toList) 4 ws (fun z _=>by rw[Array.length_toList,NN.qat_]) j _ hz
 rw[e1] at rW
 obtain ⟨g,c,e2,e3⟩:=row_at rW (by omega)
 rw[hA] at e3
 cases e2
 exact rwork_w bm gW ws.length cW j _ hj w (rf86 h3.has h3.pok) e3
theorem qqg_ (h:RfS w B F bm r M) {x y:Nat} (hx:x<M.length) (hy:y<M.length):Ca_ 16 #[.pointer (some ⟨bm,0,none⟩),.int .i64 (x:Int),.int .i64 (y:Int)] w (.bool (Hv r M x y)):=by
 have ex:=List.getElem?_eq_getElem hx
 have ey:=List.getElem?_eq_getElem hy
 have lx:=qkq_ r (M[x]).hs
 have ly:=qkq_ r (M[y]).hs
 have:=qvd_ bm x y _ _ w (h_ fun w' hb=>qix_ (h.below hb) ex) (h_ fun w' hb=>qix_ (h.below hb) ey) _ _ _ (h_ fun w'=>NN.qeb_ _ _ ly lx w') (fun w'=>NN.qjt_ lx ly w') rfl
 have e:Hv r M x y=(decide (wkOf r (M[y]).hs<wkOf r (M[x]).hs) || (decide (wkOf r (M[x]).hs=wkOf r (M[y]).hs) && decide (x<y))):=by
  unfold Hv Tp.byW
  rw[wtM_at ex,wtM_at ey]
  rfl
 rw[e]
 exact this
end
end Go.Proofs.YtbgjiplfaolpjaaGreatDoor.An
namespace Go.Proofs.YtbgjiplfaolpjaaGreatDoor.An
open Go.RowKit Mem Sc
open Ar (Ent Ru entZ Ok isP)
open Tp (Tot Srt spot ins)
def putI (r:Ru) (M:List Ent) (l:List Nat) (x:Int):List Nat:=if isIn l x=true then l else if 0<=x/\x<(M.length:Int) then ins (Hv r M) l x.toNat else l
def dropI (r:Ru) (M:List Ent) (l:List Nat) (x:Int):List Nat:=if isIn l x=true then l.take (skp r M l x) ++ l.drop (skp r M l x+1) else l
section
variable {r:Ru} {M:List Ent} {l:List Nat}
theorem putI_in (h:InS r M l) (x:Int):InS r M (putI r M l x):=by
 unfold putI
 by_cases h1:isIn l x=true
 ·rw[if_pos h1];exact h
 ·rw[if_neg h1]
  by_cases h2:0<=x/\x<(M.length:Int)
  ·rw[if_pos h2]
   have hx:x.toNat ∉ l:=fun hc=>h1 (by unfold isIn;simp[h2.1,hc])
   refine ⟨h.srt.ins (Hv_tot r M) hx,fun y hy=>?_⟩
   rcases Tp.qkf_.1 hy with rfl|hy
   ·omega
   ·exact h.lt y hy
  ·rw[if_neg h2];exact h
theorem qve_ (x:Int) (y:Nat):y ∈ putI r M l x ↔ y ∈ l\/(y:Int)=x/\y<M.length:=by
 unfold putI
 by_cases h1:isIn l x=true
 ·rw[if_pos h1]
  refine ⟨.inl,fun hy=>hy.elim id fun hy=>?_⟩
  rw[<-hy.1,qcl_] at h1
  exact of_decide_eq_true h1
 ·rw[if_neg h1]
  by_cases h2:0<=x/\x<(M.length:Int)
  ·rw[if_pos h2,Tp.qkf_]
   constructor
   ·rintro (hy|hy)
    ·exact .inr ⟨by omega,by omega⟩
    ·exact .inl hy
   ·rintro (hy|hy)
    ·exact .inr hy
    ·exact .inl (by omega)
  ·rw[if_neg h2]
   exact ⟨.inl,fun hy=>hy.elim id fun hy=>absurd (by omega) h2⟩
theorem qom_ (h:InS r M l) {x:Int} (hx:isIn l x=true):∃ hk:skp r M l x<l.length,l[skp r M l x]=x.toNat:=by
 have hp:=qeq_ h hx
 have hm:x.toNat ∈ l:=by
  unfold isIn at hx
  simp only[Bool.and_eq_true,decide_eq_true_eq] at hx
  exact hx.2
 have:=Tp.qke_ (Hv_tot r M) h.srt hm
 unfold skp
 rw[if_pos hp]
 exact this
theorem qfa_ {x:Int} (hx:isIn l x=true):dropI r M l x=l.eraseIdx (skp r M l x):=by
 unfold dropI
 rw[if_pos hx,List.eraseIdx_eq_take_drop_succ]
theorem qage_ (h:InS r M l) (x:Int):InS r M (dropI r M l x):=by
 by_cases h1:isIn l x=true
 ·obtain ⟨hk,_⟩:=qom_ h h1
  rw[qfa_ h1]
  exact ⟨(h.srt.without (Hv_tot r M) hk).1,fun y hy=>h.lt y (((h.srt.without (Hv_tot r M) hk).2 y).1 hy).1⟩
 ·unfold dropI;rw[if_neg h1];exact h
theorem qon_ (h:InS r M l) (x:Int) (y:Nat):y ∈ dropI r M l x ↔ y ∈ l/\¬(y:Int)=x:=by
 by_cases h1:isIn l x=true
 ·obtain ⟨hk,he⟩:=qom_ h h1
  have hp:=qeq_ h h1
  rw[qfa_ h1,(h.srt.without (Hv_tot r M) hk).2 y,he]
  exact ⟨fun ⟨a,b⟩=>⟨a,fun e=>b (by omega)⟩,fun ⟨a,b⟩=>⟨a,fun e=>b (by omega)⟩⟩
 ·unfold dropI;rw[if_neg h1]
  refine ⟨fun hy=>⟨hy,fun e=>h1 ?_⟩,fun hy=>hy.1⟩
  rw[<-e,qcl_]
  exact decide_eq_true hy
end
section
variable {w:World} {F G:Nat->Prop} {s:Nat} {q:Option Addr} {r:Ru} {M:List Ent} {l:List Nat}
theorem qmp_ {w w1 w2:World} (h:w1.heap.size<=w2.heap.size):∀ i,Nxt G w w1 i->Nxt G w w2 i:=fun _ hi=>hi.imp id fun hi=>⟨hi.1,by omega⟩
def StQ (w:World) (G:Nat->Prop) (s:Nat) (q:Option Addr) (r:Ru) (M:List Ent) (wr:World) (m:List Nat):Prop:=SetS wr (Nxt G w wr) s q m/\InS r M m/\Kp G w wr
theorem StQ.below {wr wr':World} {m:List Nat} (hG:∀ i,G i->i<w.heap.size) (h:StQ w G s q r M wr m) (hb:Below wr.heap.size wr wr'):StQ w G s q r M wr' m:=by
 obtain ⟨h1,h2,h3⟩:=h
 have hs:=hb.size
 have hs0:=h3.size
 refine ⟨(h1.below hb).wide (qmp_ hs) fun i hi=>hi.elim (fun hi=>by have:=hG i hi;omega) (fun hi=>hi.2),h2,h3.trans (Kp.of (F:=fun _=>False) hb) fun _ hf _=>hf.elim⟩
theorem qabh_ (hG:∀ i,G i->i<w.heap.size) {w1 w2 w3:World} {m m':List Nat} {v v':Value} (h:StQ w G s q r M w1 m) (hv:Has w1 s (stA q v) 78) (hb:Below w1.heap.size w1 w2) (hP:InsP w2 w3 v (zs m') v') (hI:InS r M m'):Kept s (StQ w G s q r M) m' (.returned v') w3:=by
 obtain ⟨⟨h0,v0,h1,h2,h3,h4,h5⟩,_,hK⟩:=h
 obtain rfl:v0=v:=by
  have e:=(st1 h1).symm.trans (st1 hv)
  exact Option.some.inj e
 have hs2:=qd_ hb hv (Has.lt hv)
 have hl1:=Has.lt hv
 obtain ⟨hr,ho,hk⟩:=hP
 have hs3:=hk.has hs2 (fun e=>h5 s e rfl)
 obtain ⟨ad,c,rfl,_⟩:=qbt_ hr
 have hz12:=hb.size
 have hz23:=hk.size
 have hz01:=hK.size
 have ne:∀ i,(Value.slice ad (zs m').length c).ownBlock=some i->i ≠ s:=fun i hi=>ho.elim (fun e=>h5 i (by rw[<-e];exact hi)) (fun ⟨g,e,hg⟩=>by rw[hi] at e;cases e;omega)
 have hz34:(w3.setCell ⟨s,1,none⟩ (.slice ad (zs m').length c)).heap.size=w3.heap.size:=by simp[World.setCell]
 have k4:Kp (fun i=>i=s) w3 (w3.setCell ⟨s,1,none⟩ (.slice ad (zs m').length c)):=Kp.gb (qbh_ w3 s 1 _) (fun k hk=>(Option.some.inj hk).symm)
 refine ⟨ad,_,c,v0,rfl,st1 hs3,Has.free hs3 1,⟨fun i hi=>?_,_,st_set hs3 _,kp_row hr k4 ne,qmp_ (by omega) s h3,fun i hi=>?_,ne⟩,hI,?_⟩
 ·exact hi.elim (fun hi=>by have:=hG i hi;omega) (fun hi=>hi.2)
 ·rcases ho with e|⟨g,e,hg⟩
  ·exact qmp_ (by omega) i (h4 i (by rw[<-e];exact hi))
  ·rw[hi] at e
   cases e
   exact .inr ⟨by omega,by rw[hz34];exact (row_lt hr hi).1⟩
 ·refine ((hK.trans (Kp.of (F:=fun _=>False) hb) (fun _ hf _=>hf.elim)).trans hk fun i hi hlt=>?_).trans k4 fun i hi hlt=>?_
  ·exact (h4 i hi).elim id fun hh=>by omega
  ·subst hi
   exact h3.elim id fun hh=>by omega
theorem qha_ (hS:SetS w G s q l):∃ ad c,Has w s (stA q (.slice ad l.length c)) 78/\RowI w (.slice ad l.length c) (zs l):=by
 obtain ⟨_,v,h1,h2,_⟩:=hS
 obtain ⟨a,c,rfl,_⟩:=qbt_ h2
 rw[qaa_] at h1 h2
 exact ⟨a,c,h1,h2⟩
theorem set_own (hS:SetS w G s q l) {v:Value} (hv:Has w s (stA q v) 78):∀ i,v.ownBlock=some i->i<w.heap.size:=by
 obtain ⟨h0,v0,h1,h2,_,h4,_⟩:=hS
 obtain rfl:v0=v:=Option.some.inj ((st1 h1).symm.trans (st1 hv))
 exact fun i hi=>h0 i (h4 i hi)
def OutI (w:World) (G:Nat->Prop) (a:Option Addr) (ps:List Int):Prop:=0<ps.length->∃ ab ao,a=some ⟨ab,ao,none⟩/\ab<w.heap.size/\¬G ab/\∀ i (hi:i<ps.length),w.cell? ⟨ab,ao+i,none⟩=some (.int .i64 ps[i])
theorem OutI.below {w w':World} {a:Option Addr} {ps:List Int} {G:Nat->Prop} (h:OutI w (fun _=>False) a ps) (hb:Below w.heap.size w w') (hG:∀ i,G i->w.heap.size<=i):OutI w' G a ps:=fun h0=>by
 obtain ⟨ab,ao,e,hlt,_,hc⟩:=h h0
 exact ⟨ab,ao,e,Nat.lt_of_lt_of_le hlt hb.size,fun hg=>absurd (hG ab hg) (by omega),fun i hi=>(hb.cell (p:=⟨ab,ao+i,none⟩) hlt).trans (hc i hi)⟩
theorem qabi_ (l:List Nat) (k:Nat):(zs l).take k=zs (l.take k):=by simp[zs]
theorem qabj_ (l:List Nat) (k:Nat):(zs l).drop k=zs (l.drop k):=by simp[zs]
theorem zs_app (a b:List Nat):zs (a ++ b)=zs a ++ zs b:=by simp[zs]
theorem put_at (hQ:TreeQ w F q r M) (hS:SetS w G s q l) (hFG:∀ i,F i->¬G i) (hI:InS r M l) (hM:M.length<=900) (a:Option Addr) (n c:Nat) (ps:List Int) (hn:n=ps.length) (hn2:n<=1000) (hA:OutI w G a ps) :
  Calls Tryz.prog 13 #[.pointer (some ⟨s,0,none⟩),.slice a n c] w fun e w'=>e = .returned (.int .i64 (((ps.foldl (putI r M) l).length:Int) - (l.length:Int)))/\StQ w G s q r M w' (ps.foldl (putI r M) l):=by
 have hG:=hS.1
 refine put_w s a n c ps (h_ hn) hn2 (StQ w G s q r M) (putI r M) l w (h_ ⟨hS.wide (fun i hi=>.inl hi) (fun i hi=>hi.elim (hG i) (fun hi=>hi.2)),hI,Kp.refl _ _⟩) (h_ fun wr wr' m h hb=>h.below hG hb) (h_ fun wr m h=>?_) (h_ fun wr m h hn0=>?_) (h_ fun wr m x h=>?_)
 ·obtain ⟨ad,c,h1,_⟩:=qha_ h.1
  exact ⟨by have:=h.2.1.few;omega,ad,c,st1 h1⟩
 ·obtain ⟨ab,ao,e,hlt,hng,hc⟩:=hA (by omega)
  exact ⟨ab,ao,e,fun i hi=>(World.cell?_of_block (h.2.2.block ab hlt hng)).trans (hc i hi)⟩
 ·have hQ':=hQ.on h.2.2 hFG
  obtain ⟨e,he,hat⟩:=hQ'.at x
  refine ⟨skp r M m x,isIn m x,decide (0<=x/\x<(M.length:Int)),fun w' hb=>quy_ (hQ'.below hb) (h.1.below hb) h.2.1 hM x,fun w' hb=>?_,fun hh=>?_,fun h1 h2 w' hb=>?_⟩
  ·obtain ⟨ad,c,h1,_⟩:=qha_ (h.1.below hb)
   exact may_w s q _ x e he _ w' h1 (h_ fun w'' hb'=>hat w'' (tb_ hb hb'))
  ·unfold putI
   rcases hh with hh|hh
   ·rw[if_pos hh]
   ·by_cases h1:isIn m x=true
    ·rw[if_pos h1]
    ·rw[if_neg h1,if_neg (of_decide_eq_false hh)]
  ·have h':=h.below hG hb
   obtain ⟨ad,c,g1,g2⟩:=qha_ h'.1
   have h2':=of_decide_eq_true h2
   refine ⟨ad,c,st1 g1,fun w2 vb hb2 hvb hx=>?_⟩
   have ek:skp r M m x=spot (Hv r M) m x.toNat:=by unfold skp;rw[if_pos h2']
   have hle:=Tp.qkd_ (Hv r M) m x.toNat
   have g3:RowI w2 (.slice ad m.length c) (zs m):=kp_row g2 (Kp.of (F:=fun _=>False) hb2) (fun _ _ h=>h)
   have hf:=h.2.1.few
   have hz:=qaa_ m
   refine (qxy_ g3 (skp r M m x) (by rw[hz,ek];exact hle) (by omega) vb x hx (fun k hk=>by have:=set_own h'.1 g1 k hk;omega)).mono ?_
   rintro e w3 ⟨v',rfl,hP⟩
   refine qabh_ hG h' g1 hb2 ?_ (putI_in h.2.1 x)
   have ep:zs (putI r M m x)=(zs m).take (skp r M m x) ++ x :: (zs m).drop (skp r M m x):=by
    unfold putI
    rw[if_neg (by rw[h1];simp),if_pos h2',ek,qabi_,qabj_]
    unfold ins
    rw[zs_app]
    congr 1
    show ((x.toNat:Nat):Int) :: _=_
    rw[Int.toNat_of_nonneg h2'.1]
    rfl
   rw[ep]
   exact hP
theorem drop_at (hQ:TreeQ w F q r M) (hS:SetS w G s q l) (hFG:∀ i,F i->¬G i) (hI:InS r M l) (hM:M.length<=900) (a:Option Addr) (n c:Nat) (ps:List Int) (hn:n=ps.length) (hn2:n<=1000) (hA:OutI w G a ps) :
  Calls Tryz.prog 14 #[.pointer (some ⟨s,0,none⟩),.slice a n c] w fun e w'=>e = .returned (.int .i64 ((l.length:Int) - ((ps.foldl (dropI r M) l).length:Int)))/\StQ w G s q r M w' (ps.foldl (dropI r M) l):=by
 have hG:=hS.1
 refine drop_w s a n c ps (h_ hn) hn2 (StQ w G s q r M) (dropI r M) l w (h_ ⟨hS.wide (fun i hi=>.inl hi) (fun i hi=>hi.elim (hG i) (fun hi=>hi.2)),hI,Kp.refl _ _⟩) (h_ fun wr wr' m h hb=>h.below hG hb) (h_ fun wr m h=>?_) (h_ fun wr m h hn0=>?_) (h_ fun wr m x h=>?_)
 ·obtain ⟨ad,c,h1,_⟩:=qha_ h.1
  exact ⟨by have:=h.2.1.few;omega,ad,c,st1 h1⟩
 ·obtain ⟨ab,ao,e,hlt,hng,hc⟩:=hA (by omega)
  exact ⟨ab,ao,e,fun i hi=>(World.cell?_of_block (h.2.2.block ab hlt hng)).trans (hc i hi)⟩
 ·have hQ':=hQ.on h.2.2 hFG
  have hf:=h.2.1.few
  have hle:skp r M m x<=m.length:=by
   unfold skp;split
   ·exact Tp.qkd_ _ _ _
   ·exact Nat.le_refl _
  refine ⟨skp r M m x,isIn m x,by omega,fun w' hb=>quy_ (hQ'.below hb) (h.1.below hb) h.2.1 hM x,fun hh=>?_,fun h1 w' hb=>?_⟩
  ·unfold dropI
   rw[if_neg (by rw[hh];simp)]
  ·have h':=h.below hG hb
   obtain ⟨ad,c,g1,g2⟩:=qha_ h'.1
   obtain ⟨hk,_⟩:=qom_ h.2.1 h1
   have hz:=qaa_ m
   refine ⟨ad,c,st1 g1,fun z hz1=>?_⟩
   refine (qxz_ g2 (skp r M m x) (by rw[hz];exact hk) z hz1).mono ?_
   rintro e w3 ⟨v',rfl,hP⟩
   refine qabh_ hG h' g1 (Below.refl _ _) ?_ (qage_ h.2.1 x)
   have ep:zs (dropI r M m x)=(zs m).take (skp r M m x) ++ (zs m).drop (skp r M m x+1):=by
    unfold dropI
    rw[if_pos h1,zs_app,qabi_,qabj_]
   rw[ep]
   exact hP
theorem qoo_ (a:Option Addr) (n c k:Nat) (hk:k<=n) (hc:n<=c) (hn:a=none->n=0/\c=0) (hp:∀ x,a=some x->∃ g,x=⟨g,0,none⟩) (w:World):(Instr.sliceAt 49 (.slice a n c) none (some (.int .i64 (k:Int))) none).run Tryz.prog w = .ok (.slice a k c) w:=by
 cases a with
 | none=>
  obtain ⟨rfl,rfl⟩:=hn rfl
  obtain rfl:k=0:=by omega
  kernel_rfl
 | some x=>
  obtain ⟨g,rfl⟩:=hp x rfl
  go_simp
  intro h
  omega
theorem trim_at (hQ:TreeQ w F q r M) (hS:SetS w G s q l) (hI:InS r M l) (hM:M.length<=900) (x:Int) :
  Calls Tryz.prog 15 #[.pointer (some ⟨s,0,none⟩),.int .i64 x] w fun e w'=>e = .returned (.int .i64 ((l.length:Int) - (abv r M l x:Int)))/\StQ w G s q r M w' (l.take (abv r M l x)):=by
 have hf:=hI.few
 have hle:=abv_le (r:=r) (M:=M) (l:=l) (x:=x)
 obtain ⟨h0,v,h1,h2,h3,h4,h5⟩:=hS
 have hS':SetS w G s q l:=⟨h0,v,h1,h2,h3,h4,h5⟩
 have hI':InS r M (l.take (abv r M l x)):=⟨hI.srt.sub (List.take_sublist _ _),fun y hy=>hI.lt y (List.mem_of_mem_take hy)⟩
 have hz:=qaa_ l
 rcases qdt_ h2 with ⟨rfl,hl0⟩|⟨g,c,S,rfl,hg,hc,hm⟩
 ·have hl:l=[]:=List.map_eq_nil_iff.1 hl0
  subst hl
  refine (trim_w s q none none 0 0 0 (by decide) (Nat.le_refl _) x w h1 (h_ fun w' hb=>?_) (h_ fun w'=>qoo_ none 0 0 0 (Nat.le_refl _) (Nat.le_refl _) (fun _=>⟨rfl,rfl⟩) (fun _ h=>by cases h) w')).mono ?_
  ·have:=qva_ (hQ.below hb) (hS'.below hb) hI hM x
   have e:abv r M [] x=0:=by have:=abv_le (r:=r) (M:=M) (l:=[]) (x:=x);simpa using this
   rwa [e] at this
  ·rintro e w' ⟨rfl,hs',hk⟩
   have e0:abv r M [] x=0:=by have:=abv_le (r:=r) (M:=M) (l:=[]) (x:=x);simpa using this
   refine ⟨by rw[e0];rfl,⟨fun i hi=>hi.elim (fun hi=>Nat.lt_of_lt_of_le (h0 i hi) hk.size) (fun hi=>hi.2),_,hs',by rw[List.take_nil];exact qabf_ _,.inl h3,fun i hi=>(by cases hi),fun i hi=>(by cases hi)⟩,hI',hk.mono fun i hi _=>hi ▸ h3⟩
 ·rw[hz] at h1
  refine (trim_w s q (some ⟨g,0,none⟩) (some ⟨g,0,none⟩) l.length c (abv r M l x) (by omega) hle x w h1 (h_ fun w' hb=>qva_ (hQ.below hb) (hS'.below hb) hI hM x) (h_ fun w'=>qoo_ _ _ _ _ hle (by omega) (fun h=>by cases h) (fun y h=>⟨g,(Option.some.inj h).symm⟩) w')).mono ?_
  rintro e w' ⟨rfl,hs',hk⟩
  have hgs:g ≠ s:=h5 g rfl
  have hg':Has w' g ((zs l).map (Value.int .i64) ++ S).toArray 3:=hk.has hg hgs
  refine ⟨rfl,⟨fun i hi=>hi.elim (fun hi=>Nat.lt_of_lt_of_le (h0 i hi) hk.size) (fun hi=>hi.2),_,hs',qef_ (S:=(zs (l.drop (abv r M l x))).map (Value.int .i64) ++ S) ?_ ?_ hm ?_,.inl h3,fun i hi=>.inl (h4 i hi),fun i hi=>h5 i hi⟩,hI',hk.mono fun i hi _=>hi ▸ h3⟩
  ·have e:(zs l).map (Value.int .i64)=(zs (l.take (abv r M l x))).map (Value.int .i64) ++ (zs (l.drop (abv r M l x))).map (Value.int .i64):=by rw[<-List.map_append,<-zs_app,List.take_append_drop]
   rw[e,List.append_assoc] at hg'
   exact hg'
  ·rw[List.length_append,List.length_map,qaa_,qaa_,List.length_take,List.length_drop];omega
  ·rw[qaa_,List.length_take];omega
end
end Go.Proofs.YtbgjiplfaolpjaaGreatDoor.An
namespace Go.Proofs.YtbgjiplfaolpjaaGreatDoor.An
open Go.RowKit Mem Sc NN.Rg2
open Ar (Ent Ru entZ Ok isP)
set_option maxRecDepth 100000
theorem qjd_ {md:Region.Mode} {ops:Array Oper} {a0:Act} {C:World->Prop} {R:Nat->Value->World->Prop} {I:Array Bool->Act->World->Prop} {listed:Array Bool} {a:Act} {w:World}
  (h:RInv md ops a0 C R I listed a w) (t:Tmp) (k:Nat) (hn:((List.range ops.size).all fun i=>i==k || ((ops[i]?).map fun o=>o.dst != some t).getD true)=true) (hk:listed.getD k false=false):a.eval (.tmp t)=a0.eval (.tmp t) :=
 h.old t fun i o hi hl e=>by
  have hi':=(Array.getElem?_eq_some_iff.1 hi).1
  have h1:=List.all_eq_true.1 hn i (List.mem_range.2 hi')
  rw[hi] at h1
  simp[e] at h1
  subst h1
  rw[hk] at hl
  cases hl
theorem qvf_ (w:World):(Instr.buildSlice 49 0 #[]).run Tryz.prog w = .ok (.slice (some ⟨w.heap.size,0,none⟩) 0 0) (w.alloc (.cells #[] 3)):=by kernel_rfl
theorem qagf_ (g n c k:Nat) (hk:k<=n) (w:World):(Instr.sliceAt 49 (.slice (some ⟨g,0,none⟩) n c) (some (.int .i64 (k:Int))) none none).run Tryz.prog w = .ok (.slice (some (if c=k then ⟨g,0,none⟩ else ⟨g,k,none⟩)) (n - k) (c - k)) w:=by
 have h1:¬n<k:=by omega
 go_simp
 split <;> rfl
section
variable {ρ:Operand->Value} {o:Oper} {w:World}
theorem qfk_ (ho:o.op = .buildSlice 49 0 #[]):(execOp ρ o).run Tryz.prog w = .ok (.value (.slice (some ⟨w.heap.size,0,none⟩) 0 0)) (w.alloc (.cells #[] 3)):=by
 unfold execOp
 simp only[ho,Sem.run_bind,List.map_toArray,List.map_nil]
 rw[qvf_ w]
 rfl
theorem qop_ {s h:Operand} {p p':Option Addr} {n c m d k:Nat} (ho:o.op = .slice 49 s (some h) none none) (hs:ρ s = .slice p n c) (hh:ρ h = .int .i64 (k:Int)) (hr:(Instr.sliceAt 49 (.slice p n c) (some (.int .i64 (k:Int))) none none).run Tryz.prog w = .ok (.slice p' m d) w):(execOp ρ o).run Tryz.prog w = .ok (.value (.slice p' m d)) w:=by
 unfold execOp
 simp only[ho,hs,hh,Option.map_some,Option.map_none,Sem.run_bind,Sem.run_pure,hr,Result.andThen_ok]
end
def OwnR (B:Nat) (w:World) (v:Value) (l:List Int):Prop:=w.ownsRow B 3 1 v l.length (l.map (Value.int .i64))
theorem OwnR.below {B:Nat} {w w':World} {v:Value} {l:List Int} (h:OwnR B w v l) (hb:Below w.heap.size w w'):OwnR B w' v l:=kp_row h (Kp.of (F:=fun _=>False) hb) fun _ _ hf=>hf
theorem OwnR.slice {B:Nat} {w:World} {v:Value} {l:List Int} (h:OwnR B w v l):∃ p c,v = .slice p l.length c:=qcs_ h
theorem OwnR.row {B:Nat} {w:World} {v:Value} {l:List Int} (h:OwnR B w v l):RowI w v l/\∀ k,v.ownBlock=some k->B<=k:=⟨⟨h.1,h.2.imp id fun ⟨g,c,cur,a1,_,a3⟩=>⟨g,c,cur,a1,Nat.zero_le _,a3⟩⟩,fun k hk=>(World.ownsRow.lt h k hk).1⟩
def SoI (B:Nat) (x:Int) (T D:List Int) (l:Array Bool) (a:Act) (w:World):Prop :=
 (l.getD 0 false=true->l.getD 4 false=false->∃ A,B<=A/\a.eval (.tmp 42) = .slice (some ⟨A,0,none⟩) 0 0/\Has w A #[] 3)/\
 (l.getD 6 false=true->l.getD 7 false=false->∃ g,B<=g/\a.eval (.tmp 48) = .slice (some ⟨g,0,none⟩) 1 1/\Has w g #[.int .i64 x] 3)/\
 (l.getD 4 false=true->l.getD 7 false=false->OwnR B w (a.eval (.tmp 46)) T)/\
 (l.getD 7 false=true->l.getD 11 false=false->OwnR B w (a.eval (.tmp 49)) (T ++ [x]))/\
 (l.getD 11 false=true->OwnR B w (a.eval (.tmp 53)) (T ++ [x] ++ D))
theorem SoI.keep {B:Nat} {x:Int} {T D:List Int} {l:Array Bool} {a:Act} {w:World} (h:SoI B x T D l a w) (i:Nat) (hi:i<l.size) (h0:i ≠ 0) (h4:i ≠ 4) (h6:i ≠ 6) (h7:i ≠ 7) (h11:i ≠ 11) (d:Option Tmp) (v:Value) (d0:d ≠ some 42) (d4:d ≠ some 46) (d6:d ≠ some 48) (d7:d ≠ some 49) (d11:d ≠ some 53) :
  SoI B x T D (l.setIfInBounds i true) (a.put d v) w:=by
 unfold SoI at h |-
 rw[qf_ l i 0 hi h0,qf_ l i 4 hi h4,qf_ l i 6 hi h6,qf_ l i 7 hi h7,qf_ l i 11 hi h11,Act.eval_put (fun d' hdd e=>d0 (by rw[hdd];cases e;rfl)),Act.eval_put (fun d' hdd e=>d6 (by rw[hdd];cases e;rfl)),Act.eval_put (fun d' hdd e=>d4 (by rw[hdd];cases e;rfl)),Act.eval_put (fun d' hdd e=>d7 (by rw[hdd];cases e;rfl)),Act.eval_put (fun d' hdd e=>d11 (by rw[hdd];cases e;rfl))]
 exact h
def SoJ (B:Nat) (x:Int) (T D:List Int) (l:Array Bool) (a:Act) (w:World):Prop:=SoI B x T D l a w/\(l.getD 12 false=true->a.eval (.tmp 5)=a.eval (.tmp 53))
theorem qzf_ {B:Nat} {w:World} {ad:Option Addr} {l:List Nat} {c:Nat} (h:OwnR B w (.slice ad l.length c) (zs l)) (i:Nat) (hi:i<l.length):∃ g,ad=some ⟨g,0,none⟩/\w.cell? ⟨g,i,none⟩=some (.int .i64 ((l[i]:Nat):Int)):=by
 obtain ⟨a,c',e,hC⟩:=qbt_ h.row.1
 have e1:ad=a:=by injection e
 subst e1
 obtain ⟨g,h1,h2⟩:=hC i (by rw[qaa_];exact hi)
 exact ⟨g,h1,by rw[h2,zs_get]⟩
theorem qagg_ {H:Nat->Nat->Bool} {inn:Nat->Bool} {n y:Nat} (h:y ∈ Tp.srt H (Tp.marked n inn)):y<n:=by
 have:∀ (ms out:List Nat),y ∈ ms.foldl (Tp.ins H) out->y ∈ ms\/y ∈ out:=by
  intro ms
  induction ms with
  | nil=>exact fun out h=>.inr h
  | cons m ms ih=>
   intro out h
   rcases ih _ h with h|h
   ·exact .inl (List.mem_cons_of_mem _ h)
   ·rcases Tp.qkf_.1 h with rfl|h
    ·exact .inl (by simp)
    ·exact .inr h
 rcases this _ _ h with h|h
 ·exact (Tp.qkh_.1 h).1
 ·simp at h
theorem qagh_ (H:Nat->Nat->Bool) (ms:List Nat):(Tp.srt H ms).length=ms.length:=by
 have:∀ (ms out:List Nat),(ms.foldl (Tp.ins H) out).length=ms.length+out.length:=by
  intro ms
  induction ms with
  | nil=>intro out;simp
  | cons m ms ih=>intro out;rw[List.foldl_cons,ih,Tp.qkg_,List.length_cons];omega
 have h:=this ms []
 simpa [Tp.srt] using h
theorem qqh_ (n:Nat) (inn:Nat->Bool):(Tp.marked n inn).length<=n:=by
 have:=List.length_filter_le inn (List.range n)
 rwa [List.length_range] at this
theorem qabk_ {B:Nat} {w:World} {ad:Option Addr} {q c:Nat} {T D:List Int} (h:OwnR B w (.slice ad q c) (T ++ D)) (hq:(T ++ D).length=q):(ad=none/\T=[]/\D=[]/\c=0/\q=0)\/∃ g,ad=some ⟨g,0,none⟩/\g<w.heap.size/\q<=c/\∀ i (hi:i<(T ++ D).length),w.cell? ⟨g,i,none⟩=some (.int .i64 (T ++ D)[i]):=by
 rcases qdt_ h.row.1 with ⟨e,hl⟩|⟨g,c',S,e,hg,hc,hm⟩
 ·injection e with e1 e2 e3
  rw[List.append_eq_nil_iff] at hl
  exact .inl ⟨e1,hl.1,hl.2,e3,e2⟩
 ·injection e with e1 e2 e3
  subst e1 e3
  refine .inr ⟨g,rfl,hg.lt,by omega,fun i hi=>?_⟩
  rw[hg.cell i,List.getElem?_toArray,List.getElem?_append_left (by simpa using hi),List.getElem?_map,List.getElem?_eq_getElem hi]
  rfl
theorem qabl_ {B:Nat} {w:World} {ad:Option Addr} {q c k:Nat} {T D:List Int} (h:OwnR B w (.slice ad q c) (T ++ D)) (hT:T.length=k) (hq:(T ++ D).length=q) (hk:k<=q):∃ (p2:Option Addr) (m2 d2:Nat),m2=q - k/\(∀w':World,(Instr.sliceAt 49 (.slice ad q c) (some (.int .i64 (k:Int))) none none).run Tryz.prog w' = .ok (.slice p2 m2 d2) w')/\((ad=none->k=0/\c=0)/\(p2=none->m2=0/\d2=0))/\MM.Lie w 0 w.heap.size ad T/\MM.Lie w 0 w.heap.size p2 D:=by
 rcases qabk_ h hq with ⟨rfl,rfl,rfl,rfl,rfl⟩|⟨g,rfl,hg,hqc,hc⟩
 ·obtain rfl:k=0:=by simpa using hT.symm
  exact ⟨none,0,0,rfl,fun w'=>by kernel_rfl,⟨fun _=>⟨rfl,rfl⟩,fun _=>⟨rfl,rfl⟩⟩,fun h0=>by simp at h0,fun h0=>by simp at h0⟩
 ·rw[List.length_append] at hq
  refine ⟨_,_,_,rfl,fun w'=>qagf_ g q c k hk w',⟨fun e=>(by cases e),fun e=>(by cases e)⟩,fun h0=>⟨g,0,rfl,Nat.zero_le _,hg,fun i hi=>?_⟩,fun h0=>⟨g,k,?_,Nat.zero_le _,hg,fun i hi=>?_⟩⟩
  ·rw[Nat.zero_add,hc i (by rw[List.length_append];omega),List.getElem_append_left hi]
   simp[List.getD_eq_getElem?_getD,hi]
  ·rw[if_neg (by omega)]
  ·rw[hc (k+i) (by rw[List.length_append];omega),List.getElem_append_right (by omega)]
   simp[List.getD_eq_getElem?_getD,hi,hT]
theorem qvg_ {B:Nat} {w:World} {ad:Option Addr} {q c k:Nat} {T D:List Int} (h:OwnR B w (.slice ad q c) (T ++ D)) (hq:(T ++ D).length=q) (hk:k<=q) (w':World):(Instr.sliceAt 49 (.slice ad q c) none (some (.int .i64 (k:Int))) none).run Tryz.prog w' = .ok (.slice ad k c) w':=by
 rcases qabk_ h hq with ⟨rfl,rfl,rfl,rfl,rfl⟩|⟨g,rfl,hg,hqc,hc⟩
 ·exact qoo_ none 0 0 k hk (Nat.le_refl _) (fun _=>⟨rfl,rfl⟩) (fun _ h=>by cases h) w'
 ·exact qoo_ _ q c k hk hqc (fun h=>by cases h) (fun y h=>⟨g,(Option.some.inj h).symm⟩) w'
def SoR (ad:Option Addr) (q c k:Nat) (x:Int) (p2:Option Addr) (m2 d2:Nat):Nat->Value->Prop
 | 1,v|8,v=>v = .slice ad q c
 | 2,v|9,v=>v = .int .i64 (k:Int)
 | 3,v=>v = .slice ad k c
 | 5,v=>v = .int .i64 x
 | 10,v=>v = .slice p2 m2 d2
 | _,_=>True
set_option maxHeartbeats 8000000 in
theorem qzg_ (bm bi n cL:Nat) (aL:Option Addr) (H:Nat->Nat->Bool) (inn:Nat->Bool) (hn:n<=100) (w:World) (HL:Hid (∀w',Below w.heap.size w w'->w'.cell? ⟨bm,83,none⟩=some (.slice aL n cL))) (HI:Hid (∀w' i,Below w.heap.size w w'->i<100->w'.cell? ⟨bi,i,none⟩=some (.bool (inn i))))
  (KH:Hid (∀w' i j,Below w.heap.size w w'->i<n->j<n->Calls Tryz.prog 16 #[.pointer (some ⟨bm,0,none⟩),.int .i64 (i:Int),.int .i64 (j:Int)] w' fun e w''=>e = .returned (.bool (H i j))/\Below w'.heap.size w' w'')) :
  Calls Tryz.prog 17 #[.pointer (some ⟨bm,0,none⟩),.slice (some ⟨bi,0,none⟩) 100 100] w fun e w'=>∃ v,e = .returned v/\RowI w' v (zs (Tp.srt H (Tp.marked n inn)))/\(∀g,v.ownBlock=some g->w.heap.size<=g)/\Below w.heap.size w w':=by
 have hB:=Below.refl w.heap.size w
 have c83:=HL.out w hB
 go_enter Tryz.func17,Tryz.ntmps17
 go_wp2_with fail
 clear c83
 go_loopw [5,13] (fun v u wr=>∃ (i:Nat) (l:List Nat) (ad:Option Addr) (c:Nat),i<=n/\u = .int .i64 (i:Int)/\v = .slice ad l.length c/\Hid (l=Tp.srt H (Tp.marked i inn))/\OwnR w.heap.size wr (.slice ad l.length c) (zs l)/\Below w.heap.size w wr) (fun _ u _=>n - (intOf u).toNat)
 case atStart=>exact ⟨0,[],none,0,by omega,rfl,rfl,h_ rfl,World.ownsRow_nil _ _ _ _,hB⟩
 case round=>
  clear hB
  obtain ⟨i,l,ad,c,hi,rfl,rfl,HLi,hO,hB⟩:=hrel
  by_cases hlt:i<n
  ·have ci:=HI.out wr i hB (by omega)
   have HS1:Hid (inn i=true->Tp.srt H (Tp.marked (i+1) inn)=Tp.ins H l i):=h_ fun e=>by rw[Tp.qhx_,if_pos e,Tp.qadn_,HLi.out]
   have HS0:Hid (inn i=false->Tp.srt H (Tp.marked (i+1) inn)=l):=h_ fun e=>by rw[Tp.qhx_,if_neg (by rw[e];simp),List.append_nil,HLi.out]
   have hi100:i<100:=by omega
   have HLT9:Hid (∀y ∈ l,y<n):=h_ fun y hy=>by
    rw[HLi.out] at hy
    have:=qagg_ hy
    omega
   have HQ9:Hid (l.length<=100):=h_ (by rw[HLi.out];have:=qagh_ H (Tp.marked i inn);have:=qqh_ i inn;omega)
   generalize inn i=g at *
   have dd:decide ((100:Int)<=(i:Int))=false:=decide_eq_false (by omega)
   cases g
   case false=>
    clear HS1 HLT9 HQ9
    go_wp2_with fail
    go_roundw
    case rel=>exact ⟨i+1,l,ad,c,by omega,by go_num,rfl,h_ (HS0.out (by simp)).symm,hO,hB⟩
    case measure=>simp[intOf];omega
   case true=>
    clear HS0
    obtain ⟨q,hq⟩:∃ q,q=l.length:=⟨_,rfl⟩
    have hq9:q<=100:=by rw[hq];exact HQ9.out
    rw[<-hq]
    have HQE:=h_ hq
    have HO:=h_ hO
    have HBr:=h_ hB
    obtain ⟨ks,hks⟩:∃ ks,ks=Tp.spot H l i:=⟨_,rfl⟩
    have hkq:ks<=q:=by rw[hks,hq];exact Tp.qkd_ _ _ _
    have HKS:=h_ hks
    have hbr:=Below.refl wr.heap.size wr
    rename World=>vr
    clear hq hks hO hB HLi HQ9
    go_wp2_with fail
    go_loopw [7] (fun u wr=>∃ k:Nat,k<=ks/\u = .int .i64 (k:Int)/\Below vr.heap.size vr wr) (fun u _=>ks - (intOf u).toNat)
    case atStart=>exact ⟨0,by omega,rfl,hbr⟩
    case round=>
     clear hbr ci
     obtain ⟨k,hk,rfl,hb⟩:=hrel
     have hB2:=tb_ HBr.out hb
     by_cases hlk:k<q
     ·have hkl:k<l.length:=by rw[<-HQE.out];exact hlk
      obtain ⟨gq,e1,hc⟩:=qzf_ HO.out k hkl
      subst e1
      have c1:=(hb.cell (block_lt_of_cell hc)).trans hc
      have KHk:=h_ (KH.out wr l[k] i hB2 (HLT9.out _ (List.getElem_mem hkl)) hlt)
      have HT1:Hid (H l[k] i=true->k+1<=ks):=h_ fun e=>by
       rcases Nat.lt_or_ge k ks with hh|hh
       ·exact hh
       ·exfalso
        obtain rfl:k=ks:=by omega
        have:=Tp.qnr_ (H:=H) (x:=i) (l:=l) (by rw[<-HKS.out];exact hkl)
        simp only[<-HKS.out] at this
        rw[this] at e
        cases e
      have HT0:Hid (H l[k] i=false->k=ks):=h_ fun e=>by
       rcases Nat.lt_or_ge k ks with hh|hh
       ·have:=Tp.qen_ (H:=H) (x:=i) hkl (by rw[<-HKS.out];exact hh)
        rw[this] at e
        cases e
       ·omega
      generalize H l[k] i=gh at *
      generalize l[k]=y at *
      clear hc hkl
      go_wp2_with fail
      refine KHk.out.mono ?_
      rintro e v8 ⟨rfl,hb8⟩
      replace hb:=tb_ hb hb8
      clear hb8 KHk c1 hB2
      cases gh
      case true=>
       go_wp2_with fail
       go_roundw
       case rel=>exact ⟨k+1,HT1.out (by simp),by go_num,hb⟩
       case measure=>have:=HT1.out (by simp);simp[intOf];omega
      case false=>
       obtain rfl:k=ks:=HT0.out (by simp)
       clear HT1 HT0
       go_upto_region 9 with fail
       have hB5:=tb_ HBr.out hb
       have hO5:OwnR w.heap.size v8 (.slice (some ⟨gq,0,none⟩) q c) (zs l):=by have:=HO.out.below hb;rwa [<-HQE.out] at this
       obtain ⟨V,hV⟩:∃ V,V=v8:=⟨_,rfl⟩
       rw[<-hV] at hb hB5 hO5 |-
       clear hV
       obtain ⟨T,hT0⟩:∃ T,T=zs (l.take k):=⟨_,rfl⟩
       obtain ⟨D,hD0⟩:∃ D,D=zs (l.drop k):=⟨_,rfl⟩
       have hTD:zs l=T ++ D:=by rw[hT0,hD0,<-zs_app,List.take_append_drop]
       have HLT:Hid (T.length=k):=h_ (by rw[hT0,qaa_,List.length_take,<-HQE.out];omega)
       have HLD:Hid (D.length=q - k):=h_ (by rw[hD0,qaa_,List.length_drop,<-HQE.out])
       obtain ⟨x,hx⟩:∃ x:Int,x=(i:Int):=⟨_,rfl⟩
       have HNEW:Hid (T ++ [x] ++ D=zs (Tp.ins H l i)):=h_ (by
        rw[hT0,hD0,hx]
        unfold Tp.ins
        rw[zs_app,<-HKS.out,List.append_assoc]
        rfl)
       rw[hTD] at hO5
       obtain ⟨p2,m2,d2,hm2,hKD,hnil,hLT,hLD⟩:=qabl_ hO5 HLT.out (by rw[List.length_append,HLT.out,HLD.out];omega) hkq
       have HLD2:Hid (D.length=m2):=h_ (by rw[HLD.out,hm2])
       have KD:=h_ hKD
       have KT:Hid (∀w',(Instr.sliceAt 49 (.slice (some ⟨gq,0,none⟩) q c) none (some (.int .i64 (k:Int))) none).run Tryz.prog w' = .ok (.slice (some ⟨gq,0,none⟩) k c) w'):=h_ (qvg_ hO5 (by rw[List.length_append,HLT.out,HLD.out];omega) hkq)
       have HNIL:=h_ hnil
       have HT:Hid (∀w',Below V.heap.size V w'->MM.Lie w' 0 V.heap.size (some ⟨gq,0,none⟩) T):=h_ fun w' hb=>hLT.below hb (Nat.le_refl _)
       have HD:Hid (∀w',Below V.heap.size V w'->MM.Lie w' 0 V.heap.size p2 D):=h_ fun w' hb=>hLD.below hb (Nat.le_refl _)
       rw[<-hx]
       replace HLD:=HLD2
       have hm9:m2<=100:=by omega
       clear HLD2 hT0 hD0 hTD hKD hnil hLT hLD hO5 HO
       refine qi_ (by kernel_rfl) (fun w'=>Below V.heap.size V w') (fun i v' _=>SoR (some ⟨gq,0,none⟩) q c k x p2 m2 d2 i v') (fun l a w'=>SoJ V.heap.size x T D l a w') (fun _ _=>True) (fun _ _=>trivial) (fun _ _ _ _ _ _ h=>h) (by kernel_rfl) (Below.refl _ _).drew ?_ ?_ ?_
       ·exact fun l hl=>⟨⟨fun h=>(by rw[hl] at h;cases h),fun h=>(by rw[hl] at h;cases h),fun h=>(by rw[hl] at h;cases h),fun h=>(by rw[hl] at h;cases h),fun h=>(by rw[hl] at h;cases h)⟩,fun h=>(by rw[hl] at h;cases h)⟩
       ·intro i o listed a wx ho' hnl hdep hinv
        have hC:=hinv.c
        have hI:=hinv.i.1
        have hi:i<13:=(Array.getElem?_eq_some_iff.1 ho').1
        obtain rfl|rfl|rfl|rfl|rfl|rfl|rfl|rfl|rfl|rfl|rfl|rfl|rfl:i=0\/i=1\/i=2\/i=3\/i=4\/i=5\/i=6\/i=7\/i=8\/i=9\/i=10\/i=11\/i=12:=by omega
        all_goals obtain rfl:=Option.some.inj ho'
        ·have hsz:=hz_ hinv 0
         have h4:=ah_ hinv hnl 4
         have h7:=ah_ hinv hnl 7
         have h11:=ah_ hinv hnl 11
         have h12:=ah_ hinv hnl 12
         have hb:Below wx.heap.size wx (wx.alloc (.cells #[] 3)):=(Below.refl _ _).alloc (Nat.le_refl _) _
         have e6:=qf_ listed 0 6 hsz (by decide)
         refine dm_ 0 hinv (qa_ rfl) (qfk_ rfl) (tb_ hC hb) trivial ⟨⟨fun _ _=>⟨wx.heap.size,hC.size,qao_ a 42 _ (by rw[hinv.tsize];exact (show 42<56 by decide)),Has.new _ _⟩,fun hh h7'=>?_,fun hh=>(by rw[h4] at hh;cases hh),fun hh=>(by rw[h7] at hh;cases hh),fun hh=>(by rw[h11] at hh;cases hh)⟩,fun hh=>(by rw[h12] at hh;cases hh)⟩
         rw[e6] at hh
         obtain ⟨g,g1,g2,g3⟩:=hI.2.1 hh (by rw[<-qf_ listed 0 7 hsz (by decide)];exact h7)
         exact ⟨g,g1,(Act.eval_put (fun d hd e=>by cases hd;cases e)).trans g2,qd_ hb g3 g3.lt⟩
        ·have hsz:=hz_ hinv 1
         have h12:=ah_ hinv hnl 12
         exact dv_ 1 hinv (qa_ rfl) (NN.ql_ rfl) (qjd_ hinv 5 12 (by kernel_rfl) (by rw[<-qf_ listed 1 12 hsz (by decide)];exact h12)) ⟨(hI.keep 1 hsz (by decide) (by decide) (by decide) (by decide) (by decide) _ _ (by decide) (by decide) (by decide) (by decide) (by decide)),fun hh=>(by rw[h12] at hh;cases hh)⟩
        ·have hsz:=hz_ hinv 2
         have h12:=ah_ hinv hnl 12
         exact dv_ 2 hinv (qa_ rfl) (NN.ql_ rfl) (hinv.old' 7) ⟨(hI.keep 2 hsz (by decide) (by decide) (by decide) (by decide) (by decide) _ _ (by decide) (by decide) (by decide) (by decide) (by decide)),fun hh=>(by rw[h12] at hh;cases hh)⟩
        ·have hsz:=hz_ hinv 3
         have h12:=ah_ hinv hnl 12
         exact dv_ 3 hinv (qa_ rfl) (qiw_ rfl (gd_ hinv hdep 1 43) (gd_ hinv hdep 2 44) (KT.out wx)) rfl ⟨(hI.keep 3 hsz (by decide) (by decide) (by decide) (by decide) (by decide) _ _ (by decide) (by decide) (by decide) (by decide) (by decide)),fun hh=>(by rw[h12] at hh;cases hh)⟩
        ·have hsz:=hz_ hinv 4
         have h7:=ah_ hinv hnl 7
         have h11:=ah_ hinv hnl 11
         have h12:=ah_ hinv hnl 12
         have h0:listed.getD 0 false=true:=hdep ⟨0,.data⟩ (by simp) rfl
         have e4:(listed.setIfInBounds 4 true).getD 4 false=true:=by rw[qt_ _ _ _ hsz,if_pos rfl]
         obtain ⟨A,hA1,hA2,hA3⟩:=hI.1 h0 hnl
         have hown:wx.ownsRow V.heap.size 3 1 (.slice (some ⟨A,0,none⟩) 0 0) 0 (([]:List Int).map (Value.int .i64)):=⟨rfl,.inr ⟨A,0,#[],rfl,hA1,hA3,Nat.le_refl _,by decide,rfl,rfl⟩⟩
         obtain ⟨v',w',hr,q1,q2⟩:=qct_ (ρ:=a.eval) (.tmp 42) (.tmp 45) V.heap.size _ 0 [] hA2 hown (some ⟨gq,0,none⟩) k c T (gd_ hinv hdep 3 45) (fun e=>HNIL.out.1 e) HLT.out (HT.out wx hC) (by omega) hC.size
         have hb:=hC.grown q2 hC.size (fun j hj=>by cases hj;exact hA1)
         refine dm_ 4 hinv (qa_ rfl) (hr _ rfl rfl) hb trivial ⟨⟨fun _ hh=>(by rw[e4] at hh;cases hh),fun hh h7'=>?_,fun _ _=>?_,fun hh=>(by rw[h7] at hh;cases hh),fun hh=>(by rw[h11] at hh;cases hh)⟩,fun hh=>(by rw[h12] at hh;cases hh)⟩
         ·rw[qf_ listed 4 6 hsz (by decide)] at hh
          obtain ⟨g,g1,g2,g3⟩:=hI.2.1 hh (by rw[<-qf_ listed 4 7 hsz (by decide)];exact h7)
          refine ⟨g,g1,(Act.eval_put (fun d hd e=>by cases hd;cases e)).trans g2,(q2.block g g3.lt (fun e=>?_)).trans g3⟩
          have e2:g=A:=Option.some.inj e
          subst e2
          have:=hA3.out.symm.trans g3.out
          simp at this
         ·show OwnR V.heap.size w' ((a.put (some 46) v').eval (.tmp 46)) T
          rw[qao_ a 46 _ (by rw[hinv.tsize];exact (show 46<56 by decide))]
          unfold OwnR
          rw[HLT.out]
          simpa using q1
        ·have hsz:=hz_ hinv 5
         have h12:=ah_ hinv hnl 12
         exact dv_ 5 hinv (qa_ rfl) (NN.ql_ rfl) (hinv.old' 6) ⟨(hI.keep 5 hsz (by decide) (by decide) (by decide) (by decide) (by decide) _ _ (by decide) (by decide) (by decide) (by decide) (by decide)),fun hh=>(by rw[h12] at hh;cases hh)⟩
        ·have hsz:=hz_ hinv 6
         have h7:=ah_ hinv hnl 7
         have h11:=ah_ hinv hnl 11
         have h12:=ah_ hinv hnl 12
         have hb:Below wx.heap.size wx (wx.alloc (.cells #[.int .i64 x] 3)):=(Below.refl _ _).alloc (Nat.le_refl _) _
         refine dm_ 6 hinv (qa_ rfl) (qed_ rfl (gd_ hinv hdep 5 47)) (tb_ hC hb) trivial ⟨⟨fun hh h4=>?_,fun _ _=>⟨wx.heap.size,hC.size,qao_ a 48 _ (by rw[hinv.tsize];exact (show 48<56 by decide)),Has.new _ _⟩,fun hh h7'=>?_,fun hh=>(by rw[h7] at hh;cases hh),fun hh=>(by rw[h11] at hh;cases hh)⟩,fun hh=>(by rw[h12] at hh;cases hh)⟩
         ·rw[qf_ listed 6 0 hsz (by decide)] at hh
          rw[qf_ listed 6 4 hsz (by decide)] at h4
          obtain ⟨A,a1,a2,a3⟩:=hI.1 hh h4
          exact ⟨A,a1,(Act.eval_put (fun d hd e=>by cases hd;cases e)).trans a2,qd_ hb a3 a3.lt⟩
         ·rw[qf_ listed 6 4 hsz (by decide)] at hh
          have:=hI.2.2.1 hh (by rw[<-qf_ listed 6 7 hsz (by decide)];exact h7)
          have ep:(a.put (some 48) (.slice (some ⟨wx.heap.size,0,none⟩) 1 1)).eval (.tmp 46)=a.eval (.tmp 46):=Act.eval_put (fun d hd e=>by cases hd;cases e)
          exact (show OwnR V.heap.size (wx.alloc (.cells #[.int .i64 x] 3)) ((a.put (some 48) (.slice (some ⟨wx.heap.size,0,none⟩) 1 1)).eval (.tmp 46)) T from by rw[ep];exact this.below hb)
        ·have hsz:=hz_ hinv 7
         have h11:=ah_ hinv hnl 11
         have h12:=ah_ hinv hnl 12
         have h4:listed.getD 4 false=true:=hdep ⟨4,.data⟩ (by simp) rfl
         have h6:listed.getD 6 false=true:=hdep ⟨6,.data⟩ (by simp) rfl
         have e7:(listed.setIfInBounds 7 true).getD 7 false=true:=by rw[qt_ _ _ _ hsz,if_pos rfl]
         have e4:(listed.setIfInBounds 7 true).getD 4 false=true:=by rw[qf_ listed 7 4 hsz (by decide)];exact h4
         obtain ⟨g,g1,g2,g3⟩:=hI.2.1 h6 hnl
         have hown:=hI.2.2.1 h4 hnl
         obtain ⟨v',w',hr,q1,q2⟩:=qct_ (lo:=0) (hi:=wx.heap.size) (ρ:=a.eval) (.tmp 46) (.tmp 48) V.heap.size _ T.length T rfl hown (some ⟨g,0,none⟩) 1 1 [x] g2 (fun e=>by cases e) rfl (fun _=>⟨g,0,rfl,Nat.zero_le _,g3.lt,fun j hj=>by
          obtain rfl:j=0:=by simpa using hj
          exact g3.cell 0⟩) (by rw[HLT.out];omega) hC.size
         have hb:=hC.grown q2 hC.size (fun j hj=>(World.ownsRow.lt hown j hj).1)
         refine dm_ 7 hinv (qa_ rfl) (hr _ rfl rfl) hb trivial ⟨⟨fun _ hh=>(by rw[e4] at hh;cases hh),fun _ hh=>(by rw[e7] at hh;cases hh),fun _ hh=>(by rw[e7] at hh;cases hh),fun _ _=>?_,fun hh=>(by rw[h11] at hh;cases hh)⟩,fun hh=>(by rw[h12] at hh;cases hh)⟩
         show OwnR V.heap.size w' ((a.put (some 49) v').eval (.tmp 49)) (T ++ [x])
         rw[qao_ a 49 _ (by rw[hinv.tsize];exact (show 49<56 by decide))]
         unfold OwnR
         rw[List.length_append]
         exact q1
        ·have hsz:=hz_ hinv 8
         have h12:=ah_ hinv hnl 12
         exact dv_ 8 hinv (qa_ rfl) (NN.ql_ rfl) (qjd_ hinv 5 12 (by kernel_rfl) (by rw[<-qf_ listed 8 12 hsz (by decide)];exact h12)) ⟨(hI.keep 8 hsz (by decide) (by decide) (by decide) (by decide) (by decide) _ _ (by decide) (by decide) (by decide) (by decide) (by decide)),fun hh=>(by rw[h12] at hh;cases hh)⟩
        ·have hsz:=hz_ hinv 9
         have h12:=ah_ hinv hnl 12
         exact dv_ 9 hinv (qa_ rfl) (NN.ql_ rfl) (hinv.old' 7) ⟨(hI.keep 9 hsz (by decide) (by decide) (by decide) (by decide) (by decide) _ _ (by decide) (by decide) (by decide) (by decide) (by decide)),fun hh=>(by rw[h12] at hh;cases hh)⟩
        ·have hsz:=hz_ hinv 10
         have h12:=ah_ hinv hnl 12
         exact dv_ 10 hinv (qa_ rfl) (qop_ rfl (gd_ hinv hdep 8 50) (gd_ hinv hdep 9 51) (KD.out wx)) rfl ⟨(hI.keep 10 hsz (by decide) (by decide) (by decide) (by decide) (by decide) _ _ (by decide) (by decide) (by decide) (by decide) (by decide)),fun hh=>(by rw[h12] at hh;cases hh)⟩
        ·have hsz:=hz_ hinv 11
         have h12:=ah_ hinv hnl 12
         have h7:listed.getD 7 false=true:=hdep ⟨7,.data⟩ (by simp) rfl
         have e11:(listed.setIfInBounds 11 true).getD 11 false=true:=by rw[qt_ _ _ _ hsz,if_pos rfl]
         have e7:(listed.setIfInBounds 11 true).getD 7 false=true:=by rw[qf_ listed 11 7 hsz (by decide)];exact h7
         have hown:=hI.2.2.2.1 h7 hnl
         obtain ⟨v',w',hr,q1,q2⟩:=qct_ (ρ:=a.eval) (.tmp 49) (.tmp 52) V.heap.size _ (T ++ [x]).length (T ++ [x]) rfl hown p2 m2 d2 D (gd_ hinv hdep 10 52) (fun e=>HNIL.out.2 e) HLD.out (HD.out wx hC) (by rw[List.length_append,HLT.out];simp;omega) hC.size
         have hb:=hC.grown q2 hC.size (fun j hj=>(World.ownsRow.lt hown j hj).1)
         refine dm_ 11 hinv (qa_ rfl) (hr _ rfl rfl) hb trivial ⟨⟨fun hh hh4=>?_,fun _ hh=>(by rw[e7] at hh;cases hh),fun _ hh=>(by rw[e7] at hh;cases hh),fun _ hh=>(by rw[e11] at hh;cases hh),fun _=>?_⟩,fun hh=>(by rw[h12] at hh;cases hh)⟩
         ·have h4:(listed.setIfInBounds 11 true).getD 4 false=true:=by
           rw[qf_ listed 11 4 hsz (by decide)]
           exact (hinv.after (k:=7) (i:=4) (by kernel_rfl) h7)
          rw[h4] at hh4
          cases hh4
         ·show OwnR V.heap.size w' ((a.put (some 53) v').eval (.tmp 53)) (T ++ [x] ++ D)
          rw[qao_ a 53 _ (by rw[hinv.tsize];exact (show 53<56 by decide))]
          have e:(T ++ [x] ++ D).length=(T ++ [x]).length+m2:=by rw[List.length_append,HLD.out]
          unfold OwnR
          rw[e]
          exact q1
        ·have hsz:=hz_ hinv 12
         have h11:listed.getD 11 false=true:=hdep ⟨11,.data⟩ (by simp) rfl
         have hv:(a.put (some 5) (a.eval (.tmp 53))).eval (.tmp 53)=a.eval (.tmp 53):=Act.eval_put (fun d hd e=>by cases hd;cases e)
         exact dv_ 12 hinv (qa_ rfl) (NN.qaf_ rfl) trivial ⟨(hI.keep 12 hsz (by decide) (by decide) (by decide) (by decide) (by decide) _ _ (by decide) (by decide) (by decide) (by decide) (by decide)),fun _=>(show (a.put (some 5) (a.eval (.tmp 53))).eval (.tmp 5)=(a.put (some 5) (a.eval (.tmp 53))).eval (.tmp 53) from by rw[hv];exact qao_ a 5 _ (by rw[hinv.tsize];exact (show 5<56 by decide)))⟩
       ·intro listed a' v9 hall hinv
        have hb9:=hinv.c
        have hO9:=hinv.i.1.2.2.2.2 (hall 11 (by decide))
        have h5:=hinv.i.2 (hall 12 (by decide))
        obtain ⟨v',hv'⟩:∃ v',v'=a'.eval (.tmp 53):=⟨_,rfl⟩
        rw[<-hv'] at hO9 h5
        rw[HNEW.out] at hO9
        have hO9':OwnR w.heap.size v9 v' (zs (Tp.ins H l i)):=⟨hO9.1,hO9.2.imp id fun ⟨g,c,cur,a1,a2,a3⟩=>⟨g,c,cur,a1,Nat.le_trans hB5.size a2,a3⟩⟩
        obtain ⟨p5,c5,rfl⟩:=hO9'.slice
        have hB9:=tb_ hB5 hb9
        rw[qaa_] at hO9' h5
        obtain ⟨u,hu⟩:∃ u:Nat->Value,∀ t,u t=a'.eval (.tmp t):=⟨_,fun _=>rfl⟩
        rw[qau_ a' 56 u hinv.tsize hinv.defers hu]
        have f0:=hinv.old' 0
        have f1:=hinv.old' 1
        have f2:=hinv.old' 2
        have f3:=hinv.old' 3
        have f4:=hinv.old' 4
        have f6:=hinv.old' 6
        have f7:=hinv.old' 7
        have f8:=hinv.old' 8
        have f9:=hinv.old' 9
        have f10:=hinv.old' 10
        have f11:=hinv.old' 11
        have f12:=hinv.old' 12
        have f13:=hinv.old' 13
        have f14:=hinv.old' 14
        have f15:=hinv.old' 15
        have f16:=hinv.old' 16
        have f17:=hinv.old' 17
        have f18:=hinv.old' 18
        have f19:=hinv.old' 19
        have f20:=hinv.old' 20
        have f21:=hinv.old' 21
        have f22:=hinv.old' 22
        have f23:=hinv.old' 23
        have f24:=hinv.old' 24
        have f25:=hinv.old' 25
        have f26:=hinv.old' 26
        have f27:=hinv.old' 27
        have f28:=hinv.old' 28
        have f29:=hinv.old' 29
        have f30:=hinv.old' 30
        have f31:=hinv.old' 31
        have f32:=hinv.old' 32
        have f33:=hinv.old' 33
        have f34:=hinv.old' 34
        have f35:=hinv.old' 35
        have f36:=hinv.old' 36
        have f37:=hinv.old' 37
        have f38:=hinv.old' 38
        have f39:=hinv.old' 39
        have f40:=hinv.old' 40
        have f41:=hinv.old' 41
        have f54:=hinv.old' 54
        have f55:=hinv.old' 55
        have f5:=h5
        simp only[<-hu] at f0 f1 f2 f3 f4 f5 f6 f7 f8 f9 f10 f11 f12 f13 f14 f15 f16 f17 f18 f19 f20 f21 f22 f23 f24 f25 f26 f27 f28 f29 f30 f31 f32 f33 f34 f35 f36 f37 f38 f39 f40 f41 f54 f55
        simp[Act.eval] at f0 f1 f2 f3 f4 f6 f7 f8 f9 f10 f11 f12 f13 f14 f15 f16 f17 f18 f19 f20 f21 f22 f23 f24 f25 f26 f27 f28 f29 f30 f31 f32 f33 f34 f35 f36 f37 f38 f39 f40 f41 f54 f55
        clear hu hinv hall
        simp only[List.range,List.range.loop,List.map_cons,List.map_nil]
        rw[f0,f1,f2,f3,f4,f5,f6,f7,f8,f9,f10,f11,f12,f13,f14,f15,f16,f17,f18,f19,f20,f21,f22,f23,f24,f25,f26,f27,f28,f29,f30,f31,f32,f33,f34,f35,f36,f37,f38,f39,f40,f41,f54,f55]
        clear f0 f1 f2 f3 f4 f5 f6 f7 f8 f9 f10 f11 f12 f13 f14 f15 f16 f17 f18 f19 f20 f21 f22 f23 f24 f25 f26 f27 f28 f29 f30 f31 f32 f33 f34 f35 f36 f37 f38 f39 f40 f41 f54 f55
        clear hv' hO9 hb9
        go_wp2_with fail
        go_roundw
        case rel=>exact ⟨i+1,Tp.ins H l i,p5,c5,by omega,by go_num,rfl,h_ (HS1.out (by simp)).symm,hO9',hB9⟩
        case measure=>simp[intOf];omega
     ·obtain rfl:k=ks:=by omega
      have hdq:decide (k<q)=false:=decide_eq_false hlk
      go_upto_region 9 with fail
      have hB5:=tb_ HBr.out hb
      have hO5:OwnR w.heap.size wr (.slice ad q c) (zs l):=by have:=HO.out.below hb;rwa [<-HQE.out] at this
      obtain ⟨V,hV⟩:∃ V,V=wr:=⟨_,rfl⟩
      rw[<-hV] at hb hB5 hO5 |-
      clear hV
      obtain ⟨T,hT0⟩:∃ T,T=zs (l.take k):=⟨_,rfl⟩
      obtain ⟨D,hD0⟩:∃ D,D=zs (l.drop k):=⟨_,rfl⟩
      have hTD:zs l=T ++ D:=by rw[hT0,hD0,<-zs_app,List.take_append_drop]
      have HLT:Hid (T.length=k):=h_ (by rw[hT0,qaa_,List.length_take,<-HQE.out];omega)
      have HLD:Hid (D.length=q - k):=h_ (by rw[hD0,qaa_,List.length_drop,<-HQE.out])
      obtain ⟨x,hx⟩:∃ x:Int,x=(i:Int):=⟨_,rfl⟩
      have HNEW:Hid (T ++ [x] ++ D=zs (Tp.ins H l i)):=h_ (by
       rw[hT0,hD0,hx]
       unfold Tp.ins
       rw[zs_app,<-HKS.out,List.append_assoc]
       rfl)
      rw[hTD] at hO5
      obtain ⟨p2,m2,d2,hm2,hKD,hnil,hLT,hLD⟩:=qabl_ hO5 HLT.out (by rw[List.length_append,HLT.out,HLD.out];omega) hkq
      have HLD2:Hid (D.length=m2):=h_ (by rw[HLD.out,hm2])
      have KD:=h_ hKD
      have KT:Hid (∀w',(Instr.sliceAt 49 (.slice ad q c) none (some (.int .i64 (k:Int))) none).run Tryz.prog w' = .ok (.slice ad k c) w'):=h_ (qvg_ hO5 (by rw[List.length_append,HLT.out,HLD.out];omega) hkq)
      have HNIL:=h_ hnil
      have HT:Hid (∀w',Below V.heap.size V w'->MM.Lie w' 0 V.heap.size ad T):=h_ fun w' hb=>hLT.below hb (Nat.le_refl _)
      have HD:Hid (∀w',Below V.heap.size V w'->MM.Lie w' 0 V.heap.size p2 D):=h_ fun w' hb=>hLD.below hb (Nat.le_refl _)
      rw[<-hx]
      replace HLD:=HLD2
      have hm9:m2<=100:=by omega
      clear HLD2 hT0 hD0 hTD hKD hnil hLT hLD hO5 HO
      refine qi_ (by kernel_rfl) (fun w'=>Below V.heap.size V w') (fun i v' _=>SoR ad q c k x p2 m2 d2 i v') (fun l a w'=>SoJ V.heap.size x T D l a w') (fun _ _=>True) (fun _ _=>trivial) (fun _ _ _ _ _ _ h=>h) (by kernel_rfl) (Below.refl _ _).drew ?_ ?_ ?_
      ·exact fun l hl=>⟨⟨fun h=>(by rw[hl] at h;cases h),fun h=>(by rw[hl] at h;cases h),fun h=>(by rw[hl] at h;cases h),fun h=>(by rw[hl] at h;cases h),fun h=>(by rw[hl] at h;cases h)⟩,fun h=>(by rw[hl] at h;cases h)⟩
      ·intro i o listed a wx ho' hnl hdep hinv
       have hC:=hinv.c
       have hI:=hinv.i.1
       have hi:i<13:=(Array.getElem?_eq_some_iff.1 ho').1
       obtain rfl|rfl|rfl|rfl|rfl|rfl|rfl|rfl|rfl|rfl|rfl|rfl|rfl:i=0\/i=1\/i=2\/i=3\/i=4\/i=5\/i=6\/i=7\/i=8\/i=9\/i=10\/i=11\/i=12:=by omega
       all_goals obtain rfl:=Option.some.inj ho'
       ·have hsz:=hz_ hinv 0
        have h4:=ah_ hinv hnl 4
        have h7:=ah_ hinv hnl 7
        have h11:=ah_ hinv hnl 11
        have h12:=ah_ hinv hnl 12
        have hb:Below wx.heap.size wx (wx.alloc (.cells #[] 3)):=(Below.refl _ _).alloc (Nat.le_refl _) _
        have e6:=qf_ listed 0 6 hsz (by decide)
        refine dm_ 0 hinv (qa_ rfl) (qfk_ rfl) (tb_ hC hb) trivial ⟨⟨fun _ _=>⟨wx.heap.size,hC.size,qao_ a 42 _ (by rw[hinv.tsize];exact (show 42<56 by decide)),Has.new _ _⟩,fun hh h7'=>?_,fun hh=>(by rw[h4] at hh;cases hh),fun hh=>(by rw[h7] at hh;cases hh),fun hh=>(by rw[h11] at hh;cases hh)⟩,fun hh=>(by rw[h12] at hh;cases hh)⟩
        rw[e6] at hh
        obtain ⟨g,g1,g2,g3⟩:=hI.2.1 hh (by rw[<-qf_ listed 0 7 hsz (by decide)];exact h7)
        exact ⟨g,g1,(Act.eval_put (fun d hd e=>by cases hd;cases e)).trans g2,qd_ hb g3 g3.lt⟩
       ·have hsz:=hz_ hinv 1
        have h12:=ah_ hinv hnl 12
        exact dv_ 1 hinv (qa_ rfl) (NN.ql_ rfl) (qjd_ hinv 5 12 (by kernel_rfl) (by rw[<-qf_ listed 1 12 hsz (by decide)];exact h12)) ⟨(hI.keep 1 hsz (by decide) (by decide) (by decide) (by decide) (by decide) _ _ (by decide) (by decide) (by decide) (by decide) (by decide)),fun hh=>(by rw[h12] at hh;cases hh)⟩
       ·have hsz:=hz_ hinv 2
        have h12:=ah_ hinv hnl 12
        exact dv_ 2 hinv (qa_ rfl) (NN.ql_ rfl) (hinv.old' 7) ⟨(hI.keep 2 hsz (by decide) (by decide) (by decide) (by decide) (by decide) _ _ (by decide) (by decide) (by decide) (by decide) (by decide)),fun hh=>(by rw[h12] at hh;cases hh)⟩
       ·have hsz:=hz_ hinv 3
        have h12:=ah_ hinv hnl 12
        exact dv_ 3 hinv (qa_ rfl) (qiw_ rfl (gd_ hinv hdep 1 43) (gd_ hinv hdep 2 44) (KT.out wx)) rfl ⟨(hI.keep 3 hsz (by decide) (by decide) (by decide) (by decide) (by decide) _ _ (by decide) (by decide) (by decide) (by decide) (by decide)),fun hh=>(by rw[h12] at hh;cases hh)⟩
       ·have hsz:=hz_ hinv 4
        have h7:=ah_ hinv hnl 7
        have h11:=ah_ hinv hnl 11
        have h12:=ah_ hinv hnl 12
        have h0:listed.getD 0 false=true:=hdep ⟨0,.data⟩ (by simp) rfl
        have e4:(listed.setIfInBounds 4 true).getD 4 false=true:=by rw[qt_ _ _ _ hsz,if_pos rfl]
        obtain ⟨A,hA1,hA2,hA3⟩:=hI.1 h0 hnl
        have hown:wx.ownsRow V.heap.size 3 1 (.slice (some ⟨A,0,none⟩) 0 0) 0 (([]:List Int).map (Value.int .i64)):=⟨rfl,.inr ⟨A,0,#[],rfl,hA1,hA3,Nat.le_refl _,by decide,rfl,rfl⟩⟩
        obtain ⟨v',w',hr,q1,q2⟩:=qct_ (ρ:=a.eval) (.tmp 42) (.tmp 45) V.heap.size _ 0 [] hA2 hown ad k c T (gd_ hinv hdep 3 45) (fun e=>HNIL.out.1 e) HLT.out (HT.out wx hC) (by omega) hC.size
        have hb:=hC.grown q2 hC.size (fun j hj=>by cases hj;exact hA1)
        refine dm_ 4 hinv (qa_ rfl) (hr _ rfl rfl) hb trivial ⟨⟨fun _ hh=>(by rw[e4] at hh;cases hh),fun hh h7'=>?_,fun _ _=>?_,fun hh=>(by rw[h7] at hh;cases hh),fun hh=>(by rw[h11] at hh;cases hh)⟩,fun hh=>(by rw[h12] at hh;cases hh)⟩
        ·rw[qf_ listed 4 6 hsz (by decide)] at hh
         obtain ⟨g,g1,g2,g3⟩:=hI.2.1 hh (by rw[<-qf_ listed 4 7 hsz (by decide)];exact h7)
         refine ⟨g,g1,(Act.eval_put (fun d hd e=>by cases hd;cases e)).trans g2,(q2.block g g3.lt (fun e=>?_)).trans g3⟩
         have e2:g=A:=Option.some.inj e
         subst e2
         have:=hA3.out.symm.trans g3.out
         simp at this
        ·show OwnR V.heap.size w' ((a.put (some 46) v').eval (.tmp 46)) T
         rw[qao_ a 46 _ (by rw[hinv.tsize];exact (show 46<56 by decide))]
         unfold OwnR
         rw[HLT.out]
         simpa using q1
       ·have hsz:=hz_ hinv 5
        have h12:=ah_ hinv hnl 12
        exact dv_ 5 hinv (qa_ rfl) (NN.ql_ rfl) (hinv.old' 6) ⟨(hI.keep 5 hsz (by decide) (by decide) (by decide) (by decide) (by decide) _ _ (by decide) (by decide) (by decide) (by decide) (by decide)),fun hh=>(by rw[h12] at hh;cases hh)⟩
       ·have hsz:=hz_ hinv 6
        have h7:=ah_ hinv hnl 7
        have h11:=ah_ hinv hnl 11
        have h12:=ah_ hinv hnl 12
        have hb:Below wx.heap.size wx (wx.alloc (.cells #[.int .i64 x] 3)):=(Below.refl _ _).alloc (Nat.le_refl _) _
        refine dm_ 6 hinv (qa_ rfl) (qed_ rfl (gd_ hinv hdep 5 47)) (tb_ hC hb) trivial ⟨⟨fun hh h4=>?_,fun _ _=>⟨wx.heap.size,hC.size,qao_ a 48 _ (by rw[hinv.tsize];exact (show 48<56 by decide)),Has.new _ _⟩,fun hh h7'=>?_,fun hh=>(by rw[h7] at hh;cases hh),fun hh=>(by rw[h11] at hh;cases hh)⟩,fun hh=>(by rw[h12] at hh;cases hh)⟩
        ·rw[qf_ listed 6 0 hsz (by decide)] at hh
         rw[qf_ listed 6 4 hsz (by decide)] at h4
         obtain ⟨A,a1,a2,a3⟩:=hI.1 hh h4
         exact ⟨A,a1,(Act.eval_put (fun d hd e=>by cases hd;cases e)).trans a2,qd_ hb a3 a3.lt⟩
        ·rw[qf_ listed 6 4 hsz (by decide)] at hh
         have:=hI.2.2.1 hh (by rw[<-qf_ listed 6 7 hsz (by decide)];exact h7)
         have ep:(a.put (some 48) (.slice (some ⟨wx.heap.size,0,none⟩) 1 1)).eval (.tmp 46)=a.eval (.tmp 46):=Act.eval_put (fun d hd e=>by cases hd;cases e)
         exact (show OwnR V.heap.size (wx.alloc (.cells #[.int .i64 x] 3)) ((a.put (some 48) (.slice (some ⟨wx.heap.size,0,none⟩) 1 1)).eval (.tmp 46)) T from by rw[ep];exact this.below hb)
       ·have hsz:=hz_ hinv 7
        have h11:=ah_ hinv hnl 11
        have h12:=ah_ hinv hnl 12
        have h4:listed.getD 4 false=true:=hdep ⟨4,.data⟩ (by simp) rfl
        have h6:listed.getD 6 false=true:=hdep ⟨6,.data⟩ (by simp) rfl
        have e7:(listed.setIfInBounds 7 true).getD 7 false=true:=by rw[qt_ _ _ _ hsz,if_pos rfl]
        have e4:(listed.setIfInBounds 7 true).getD 4 false=true:=by rw[qf_ listed 7 4 hsz (by decide)];exact h4
        obtain ⟨g,g1,g2,g3⟩:=hI.2.1 h6 hnl
        have hown:=hI.2.2.1 h4 hnl
        obtain ⟨v',w',hr,q1,q2⟩:=qct_ (lo:=0) (hi:=wx.heap.size) (ρ:=a.eval) (.tmp 46) (.tmp 48) V.heap.size _ T.length T rfl hown (some ⟨g,0,none⟩) 1 1 [x] g2 (fun e=>by cases e) rfl (fun _=>⟨g,0,rfl,Nat.zero_le _,g3.lt,fun j hj=>by
         obtain rfl:j=0:=by simpa using hj
         exact g3.cell 0⟩) (by rw[HLT.out];omega) hC.size
        have hb:=hC.grown q2 hC.size (fun j hj=>(World.ownsRow.lt hown j hj).1)
        refine dm_ 7 hinv (qa_ rfl) (hr _ rfl rfl) hb trivial ⟨⟨fun _ hh=>(by rw[e4] at hh;cases hh),fun _ hh=>(by rw[e7] at hh;cases hh),fun _ hh=>(by rw[e7] at hh;cases hh),fun _ _=>?_,fun hh=>(by rw[h11] at hh;cases hh)⟩,fun hh=>(by rw[h12] at hh;cases hh)⟩
        show OwnR V.heap.size w' ((a.put (some 49) v').eval (.tmp 49)) (T ++ [x])
        rw[qao_ a 49 _ (by rw[hinv.tsize];exact (show 49<56 by decide))]
        unfold OwnR
        rw[List.length_append]
        exact q1
       ·have hsz:=hz_ hinv 8
        have h12:=ah_ hinv hnl 12
        exact dv_ 8 hinv (qa_ rfl) (NN.ql_ rfl) (qjd_ hinv 5 12 (by kernel_rfl) (by rw[<-qf_ listed 8 12 hsz (by decide)];exact h12)) ⟨(hI.keep 8 hsz (by decide) (by decide) (by decide) (by decide) (by decide) _ _ (by decide) (by decide) (by decide) (by decide) (by decide)),fun hh=>(by rw[h12] at hh;cases hh)⟩
       ·have hsz:=hz_ hinv 9
        have h12:=ah_ hinv hnl 12
        exact dv_ 9 hinv (qa_ rfl) (NN.ql_ rfl) (hinv.old' 7) ⟨(hI.keep 9 hsz (by decide) (by decide) (by decide) (by decide) (by decide) _ _ (by decide) (by decide) (by decide) (by decide) (by decide)),fun hh=>(by rw[h12] at hh;cases hh)⟩
       ·have hsz:=hz_ hinv 10
        have h12:=ah_ hinv hnl 12
        exact dv_ 10 hinv (qa_ rfl) (qop_ rfl (gd_ hinv hdep 8 50) (gd_ hinv hdep 9 51) (KD.out wx)) rfl ⟨(hI.keep 10 hsz (by decide) (by decide) (by decide) (by decide) (by decide) _ _ (by decide) (by decide) (by decide) (by decide) (by decide)),fun hh=>(by rw[h12] at hh;cases hh)⟩
       ·have hsz:=hz_ hinv 11
        have h12:=ah_ hinv hnl 12
        have h7:listed.getD 7 false=true:=hdep ⟨7,.data⟩ (by simp) rfl
        have e11:(listed.setIfInBounds 11 true).getD 11 false=true:=by rw[qt_ _ _ _ hsz,if_pos rfl]
        have e7:(listed.setIfInBounds 11 true).getD 7 false=true:=by rw[qf_ listed 11 7 hsz (by decide)];exact h7
        have hown:=hI.2.2.2.1 h7 hnl
        obtain ⟨v',w',hr,q1,q2⟩:=qct_ (ρ:=a.eval) (.tmp 49) (.tmp 52) V.heap.size _ (T ++ [x]).length (T ++ [x]) rfl hown p2 m2 d2 D (gd_ hinv hdep 10 52) (fun e=>HNIL.out.2 e) HLD.out (HD.out wx hC) (by rw[List.length_append,HLT.out];simp;omega) hC.size
        have hb:=hC.grown q2 hC.size (fun j hj=>(World.ownsRow.lt hown j hj).1)
        refine dm_ 11 hinv (qa_ rfl) (hr _ rfl rfl) hb trivial ⟨⟨fun hh hh4=>?_,fun _ hh=>(by rw[e7] at hh;cases hh),fun _ hh=>(by rw[e7] at hh;cases hh),fun _ hh=>(by rw[e11] at hh;cases hh),fun _=>?_⟩,fun hh=>(by rw[h12] at hh;cases hh)⟩
        ·have h4:(listed.setIfInBounds 11 true).getD 4 false=true:=by
          rw[qf_ listed 11 4 hsz (by decide)]
          exact (hinv.after (k:=7) (i:=4) (by kernel_rfl) h7)
         rw[h4] at hh4
         cases hh4
        ·show OwnR V.heap.size w' ((a.put (some 53) v').eval (.tmp 53)) (T ++ [x] ++ D)
         rw[qao_ a 53 _ (by rw[hinv.tsize];exact (show 53<56 by decide))]
         have e:(T ++ [x] ++ D).length=(T ++ [x]).length+m2:=by rw[List.length_append,HLD.out]
         unfold OwnR
         rw[e]
         exact q1
       ·have hsz:=hz_ hinv 12
        have h11:listed.getD 11 false=true:=hdep ⟨11,.data⟩ (by simp) rfl
        have hv:(a.put (some 5) (a.eval (.tmp 53))).eval (.tmp 53)=a.eval (.tmp 53):=Act.eval_put (fun d hd e=>by cases hd;cases e)
        exact dv_ 12 hinv (qa_ rfl) (NN.qaf_ rfl) trivial ⟨(hI.keep 12 hsz (by decide) (by decide) (by decide) (by decide) (by decide) _ _ (by decide) (by decide) (by decide) (by decide) (by decide)),fun _=>(show (a.put (some 5) (a.eval (.tmp 53))).eval (.tmp 5)=(a.put (some 5) (a.eval (.tmp 53))).eval (.tmp 53) from by rw[hv];exact qao_ a 5 _ (by rw[hinv.tsize];exact (show 5<56 by decide)))⟩
      ·intro listed a' v9 hall hinv
       have hb9:=hinv.c
       have hO9:=hinv.i.1.2.2.2.2 (hall 11 (by decide))
       have h5:=hinv.i.2 (hall 12 (by decide))
       obtain ⟨v',hv'⟩:∃ v',v'=a'.eval (.tmp 53):=⟨_,rfl⟩
       rw[<-hv'] at hO9 h5
       rw[HNEW.out] at hO9
       have hO9':OwnR w.heap.size v9 v' (zs (Tp.ins H l i)):=⟨hO9.1,hO9.2.imp id fun ⟨g,c,cur,a1,a2,a3⟩=>⟨g,c,cur,a1,Nat.le_trans hB5.size a2,a3⟩⟩
       obtain ⟨p5,c5,rfl⟩:=hO9'.slice
       have hB9:=tb_ hB5 hb9
       rw[qaa_] at hO9' h5
       obtain ⟨u,hu⟩:∃ u:Nat->Value,∀ t,u t=a'.eval (.tmp t):=⟨_,fun _=>rfl⟩
       rw[qau_ a' 56 u hinv.tsize hinv.defers hu]
       have f0:=hinv.old' 0
       have f1:=hinv.old' 1
       have f2:=hinv.old' 2
       have f3:=hinv.old' 3
       have f4:=hinv.old' 4
       have f6:=hinv.old' 6
       have f7:=hinv.old' 7
       have f8:=hinv.old' 8
       have f9:=hinv.old' 9
       have f10:=hinv.old' 10
       have f11:=hinv.old' 11
       have f12:=hinv.old' 12
       have f13:=hinv.old' 13
       have f14:=hinv.old' 14
       have f15:=hinv.old' 15
       have f16:=hinv.old' 16
       have f17:=hinv.old' 17
       have f18:=hinv.old' 18
       have f19:=hinv.old' 19
       have f20:=hinv.old' 20
       have f21:=hinv.old' 21
       have f22:=hinv.old' 22
       have f23:=hinv.old' 23
       have f24:=hinv.old' 24
       have f25:=hinv.old' 25
       have f26:=hinv.old' 26
       have f27:=hinv.old' 27
       have f28:=hinv.old' 28
       have f29:=hinv.old' 29
       have f30:=hinv.old' 30
       have f31:=hinv.old' 31
       have f32:=hinv.old' 32
       have f33:=hinv.old' 33
       have f34:=hinv.old' 34
       have f35:=hinv.old' 35
       have f36:=hinv.old' 36
       have f37:=hinv.old' 37
       have f38:=hinv.old' 38
       have f39:=hinv.old' 39
       have f40:=hinv.old' 40
       have f41:=hinv.old' 41
       have f54:=hinv.old' 54
       have f55:=hinv.old' 55
       have f5:=h5
       simp only[<-hu] at f0 f1 f2 f3 f4 f5 f6 f7 f8 f9 f10 f11 f12 f13 f14 f15 f16 f17 f18 f19 f20 f21 f22 f23 f24 f25 f26 f27 f28 f29 f30 f31 f32 f33 f34 f35 f36 f37 f38 f39 f40 f41 f54 f55
       simp[Act.eval] at f0 f1 f2 f3 f4 f6 f7 f8 f9 f10 f11 f12 f13 f14 f15 f16 f17 f18 f19 f20 f21 f22 f23 f24 f25 f26 f27 f28 f29 f30 f31 f32 f33 f34 f35 f36 f37 f38 f39 f40 f41 f54 f55
       clear hu hinv hall
       simp only[List.range,List.range.loop,List.map_cons,List.map_nil]
       rw[f0,f1,f2,f3,f4,f5,f6,f7,f8,f9,f10,f11,f12,f13,f14,f15,f16,f17,f18,f19,f20,f21,f22,f23,f24,f25,f26,f27,f28,f29,f30,f31,f32,f33,f34,f35,f36,f37,f38,f39,f40,f41,f54,f55]
       clear f0 f1 f2 f3 f4 f5 f6 f7 f8 f9 f10 f11 f12 f13 f14 f15 f16 f17 f18 f19 f20 f21 f22 f23 f24 f25 f26 f27 f28 f29 f30 f31 f32 f33 f34 f35 f36 f37 f38 f39 f40 f41 f54 f55
       clear hv' hO9 hb9
       go_wp2_with fail
       go_roundw
       case rel=>exact ⟨i+1,Tp.ins H l i,p5,c5,by omega,by go_num,rfl,h_ (HS1.out (by simp)).symm,hO9',hB9⟩
       case measure=>simp[intOf];omega
  ·obtain rfl:i=n:=by omega
   have HR:Hid (RowI wr (.slice ad l.length c) (zs (Tp.srt H (Tp.marked i inn)))/\∀ g,(Value.slice ad l.length c).ownBlock=some g->w.heap.size<=g):=h_ (by rw[<-HLi.out];exact hO.row)
   clear hO
   go_wp2_with fail
   go_ret
   exact ⟨_,rfl,HR.out.1,HR.out.2,hB⟩
end Go.Proofs.YtbgjiplfaolpjaaGreatDoor.An
namespace Go.Proofs.YtbgjiplfaolpjaaGreatDoor.An
open Go.RowKit Mem Sc
open Ar (Ent Ru entZ Ok isP)
set_option maxRecDepth 100000
theorem qagi_ (r:Ru) (M:List Ent) (h:Hd) (now:Int):(Ar.add r M h now).2.length<=M.length+1:=by
 unfold Ar.add
 repeat' split
 all_goals simp
theorem qqi_ (w:World) (x y z:Int):(Instr.buildSlice 49 3 #[(0,.int .i64 x),(1,.int .i64 y),(2,.int .i64 z)]).run Tryz.prog w = .ok (.slice (some ⟨w.heap.size,0,none⟩) 3 3) (w.alloc (.cells #[.int .i64 x,.int .i64 y,.int .i64 z] 3)):=by kernel_rfl
theorem qagj_ (r:Ru):[0,0,1].foldl (putI r [entZ]) []=[0]:=by
 have e1:putI r [entZ] [] 0=[0]:=by simp[putI,isIn,Tp.ins,Tp.spot]
 have e2:putI r [entZ] [0] 0=[0]:=by simp[putI,isIn]
 have e3:putI r [entZ] [0] 1=[0]:=by simp[putI,isIn]
 simp only[List.foldl_cons,List.foldl_nil,e1,e2,e3]
theorem qzh_ (w:World) (S0:World->Nat->Prop) (S1:World->Nat->Prop)
  (KN:Hid (Calls Tryz.prog 8 #[.agg (NN.prA NN.prL),.int .i64 5] w fun r w'=>∃ b,r = .returned (.tuple #[.pointer (some ⟨b,0,none⟩),.int .i64 0])/\(Calls Tryz.prog 10 #[.pointer (some ⟨b,0,none⟩)] w' fun e w''=>∃ s,e = .returned (.pointer (some ⟨s,0,none⟩))/\S0 w'' s)))
  (KP:Hid (∀wr s,S0 wr s->Calls Tryz.prog 13 #[.pointer (some ⟨s,0,none⟩),.slice (some ⟨wr.heap.size,0,none⟩) 3 3] (wr.alloc (.cells #[.int .i64 0,.int .i64 0,.int .i64 1] 3)) fun e w'=>e = .returned (.int .i64 1)/\S1 w' s))
  (KB:Hid (∀wr s,S1 wr s->Calls Tryz.prog 20 #[.pointer (some ⟨s,0,none⟩)] wr fun e w'=>e = .returned (.int .i64 0)/\S1 w' s))
  (KL:Hid (∀wr s,S1 wr s->Calls Tryz.prog 19 #[.pointer (some ⟨s,0,none⟩)] wr fun e w'=>e = .returned (.int .i64 1)/\S1 w' s))
  (HB:Hid (∀wr s,S1 wr s->Below w.heap.size w wr)) :
  Ca_ 6 #[] w (.bool true):=by
 go_enter Tryz.func6,Tryz.ntmps6
 go_wp2_with (with_reducible refine qyw_ rfl rfl ?_)
 refine KN.out.mono ?_
 rintro e v1 ⟨b,rfl,K1⟩
 have H1:=h_ K1
 clear K1
 go_wp2_with fail
 refine H1.out.mono ?_
 rintro e v2 ⟨s,rfl,hs⟩
 have KP2:=h_ (KP.out v2 s hs)
 clear hs H1
 have hmk:=fun w=>qqi_ w 0 0 1
 go_wp2_with fail
 refine KP2.out.mono ?_
 rintro e v3 ⟨rfl,hs⟩
 have K3:=h_ (KB.out v3 s hs)
 clear hs KP2 hmk
 go_wp2_with fail
 refine K3.out.mono ?_
 rintro e v4 ⟨rfl,hs⟩
 have K4:=h_ (KL.out v4 s hs)
 clear hs K3
 go_wp2_with fail
 refine K4.out.mono ?_
 rintro e v5 ⟨rfl,hs⟩
 have hB:=HB.out v5 s hs
 clear hs K4
 go_wp2_with fail
 go_ret
 exact ⟨rfl,hB⟩
theorem alive15 (w:World) (hT:Tab w):Ca_ 6 #[] w (.bool true):=by
 have hG0:∀ {wr:World} {G:Nat->Prop} {s:Nat} {q:Option Addr} {r:Ru} {M:List Ent} {w1:World} {m:List Nat},StQ wr G s q r M w1 m->∃ G',SetS w1 G' s q m/\∀ i,G' i->G i\/wr.heap.size<=i:=fun h=>⟨_,h.1,fun i hi=>hi.imp id fun hi=>hi.1⟩
 refine qzh_ w (fun wr s=>∃ b F,TrS wr F b ⟨NN.prL,tlN.g,[],[],clampR 5⟩ [entZ] [-1]/\SetS wr (fun i=>i=s) s (some ⟨b,0,none⟩) []/\(∀i,F i->i ≠ s)/\w.heap.size<=s/\Below w.heap.size w wr) (fun wr s=>∃ G q,SetS wr G s q [0]/\Below w.heap.size w wr) ?_ (h_ fun wr s ⟨b,F,h1,h2,h3,h4,h5⟩=>?_) (h_ fun wr s ⟨G,q,h1,h2⟩=>?_) (h_ fun wr s ⟨G,q,h1,h2⟩=>?_) (h_ fun wr s ⟨G,q,_,h2⟩=>h2)
 ·refine h_ ((qabd_ NN.prL (NN.tlZ_ok _ _ _ _ _) (NN.tlZ_one _ _ _ _ _) tlN tlN_is tlN_ok [] [] rfl rfl (Nat.zero_le _) (Nat.zero_le _) 5 (by decide +kernel) w hT (fun h=>by simp at h) (fun h=>by simp at h)).mono ?_)
  rintro r w' ⟨b,F,rfl,hA,_,hb⟩
  refine ⟨b,rfl,(qvc_ (some ⟨b,0,none⟩) w').mono ?_⟩
  rintro e w'' ⟨s,rfl,hs,hS,hb'⟩
  exact ⟨s,rfl,b,F,hA.below hb',hS,fun i hi e=>by have:=hA.1 i hi;omega,by have:=hb.size;omega,tb_ hb hb'⟩
 ·have hb:Below wr.heap.size wr (wr.alloc (.cells #[.int .i64 0,.int .i64 0,.int .i64 1] 3)):=(Below.refl _ _).alloc (Nat.le_refl _) _
  have hx:Has (wr.alloc (.cells #[.int .i64 0,.int .i64 0,.int .i64 1] 3)) wr.heap.size #[.int .i64 0,.int .i64 0,.int .i64 1] 3:=Has.new _ _
  have hsl:=h2.1 s rfl
  refine (put_at (F:=F) (M:=[entZ]) (.inl ⟨b,[-1],rfl,h1.below hb⟩) (h2.below hb) h3 (InS.nil _ _) (by decide) (some ⟨wr.heap.size,0,none⟩) 3 3 [0,0,1] rfl (by decide) (fun _=>⟨wr.heap.size,0,rfl,hx.lt,by omega,fun i hi=>?_⟩)).mono ?_
  ·rw[Nat.zero_add,hx.cell i]
   have hi3:i<3:=hi
   obtain rfl|rfl|rfl:i=0\/i=1\/i=2:=by omega
   ·rfl
   ·rfl
   ·rfl
  ·rintro e w' ⟨rfl,hQ⟩
   rw[qagj_] at hQ |-
   have hs5:=h5.size
   exact ⟨rfl,_,_,hQ.1,(h5.trans (hb.mono hs5)).trans (hQ.2.2.below (fun i hi=>by omega) (Nat.le_trans hs5 hb.size))⟩
 ·refine (qabg_ h1).mono ?_
  rintro e w' ⟨rfl,hb⟩
  exact ⟨rfl,G,q,h1.below hb,tb_ h2 hb⟩
 ·refine (qvb_ h1).mono ?_
  rintro e w' ⟨rfl,hb⟩
  exact ⟨rfl,G,q,h1.below hb,tb_ h2 hb⟩
end Go.Proofs.YtbgjiplfaolpjaaGreatDoor.An
namespace Go.Proofs.YtbgjiplfaolpjaaGreatDoor.An
open Go.RowKit Mem Sc
open Ar (Ent Ru entZ Ok isP)
set_option maxRecDepth 100000
def mkB (L:List Nat):Array Value:=((List.range 100).map fun i=>Value.bool (decide (i ∈ L))).toArray
theorem qvh_ (L:List Nat) {i:Nat} (hi:i<100):(mkB L)[i]?=some (.bool (decide (i ∈ L))):=by
 unfold mkB
 rw[List.getElem?_toArray,List.getElem?_map,List.getElem?_range hi]
 rfl
theorem qhb_ (L:List Nat):(mkB L).size=100:=by simp[mkB]
theorem mkB_set {L L':List Nat} {i:Nat} {b:Bool} (h:∀ j,j<100->decide (j ∈ L')=if j=i then b else decide (j ∈ L)):(mkB L).setIfInBounds i (.bool b)=mkB L':=by
 apply Array.ext
 ·rw[Array.size_setIfInBounds,qhb_,qhb_]
 ·intro j h1 h2
  rw[qhb_] at h2
  have e1:((mkB L).setIfInBounds i (.bool b))[j]?=(mkB L')[j]?:=by
   rw[Array.getElem?_setIfInBounds,qvh_ L' h2,h j h2,qhb_]
   by_cases e:i=j
   ·subst e;simp[h2]
   ·rw[if_neg e,if_neg (Ne.symm e),qvh_ L h2]
  have e2:=Array.getElem?_eq_getElem h1
  have e3:=Array.getElem?_eq_getElem (xs:=mkB L') (i:=j) (by rw[qhb_];exact h2)
  rw[e2,e3] at e1
  exact Option.some.inj e1
theorem mkB_nil:mkB []=Array.replicate 100 (.bool false):=by kernel_rfl
def CoreQ (B:Nat) (w:World) (r:Ru) (bt bm s bi:Nat) (x:Option (Nat × Ac)) (Mt Mr:List Ent) (l L:List Nat) (F Fm G:Nat->Prop):Prop :=
 (∃lp,TrS w F bt r Mt lp/\lp.length=Mt.length)/\RfS w B Fm bm r Mr/\SetS w G s (some ⟨bt,0,none⟩) l/\Has w bi (mkB L) 4/\B<=bi/\
 (∀i,F i->B<=i/\¬Fm i/\¬G i/\i ≠ bi)/\(∀i,Fm i->¬G i/\i ≠ bi)/\(∀i,G i->B<=i/\i ≠ bi)/\
 ∀ p,x=some p->AcAt w p.1 p.2/\¬F p.1/\¬Fm p.1/\¬G p.1/\p.1 ≠ bi
def Core (w0 w:World) (r:Ru) (bt bm s bi:Nat) (x:Option (Nat × Ac)) (Mt Mr:List Ent) (l L:List Nat):Prop:=(∃F Fm G,CoreQ w0.heap.size w r bt bm s bi x Mt Mr l L F Fm G)/\Below w0.heap.size w0 w
section
variable {w0 w w':World} {r:Ru} {bt bm s bi:Nat} {x:Option (Nat × Ac)} {Mt Mr M:List Ent} {l L:List Nat}
theorem kp_none (hb:Below w.heap.size w w'):Kp (fun _=>False) w w':=Kp.of hb
theorem CoreQ.below {B:Nat} {F Fm G:Nat->Prop} (h:CoreQ B w r bt bm s bi x Mt Mr l L F Fm G) (hb:Below w.heap.size w w'):CoreQ B w' r bt bm s bi x Mt Mr l L F Fm G:=by
 obtain ⟨⟨lp,h1,h1'⟩,h2,h3,h4,h5,h6,h7,h8,h9⟩:=h
 exact ⟨⟨lp,h1.below hb,h1'⟩,h2.below hb,h3.below hb,(kp_none hb).has h4 (fun h=>h),h5,h6,h7,h8,fun p hp=>⟨(h9 p hp).1.on hb,(h9 p hp).2⟩⟩
theorem Core.below (h:Core w0 w r bt bm s bi x Mt Mr l L) (hb:Below w.heap.size w w'):Core w0 w' r bt bm s bi x Mt Mr l L:=by
 obtain ⟨⟨F,Fm,G,h⟩,hB⟩:=h
 exact ⟨⟨F,Fm,G,h.below hb⟩,tb_ hB hb⟩
theorem Core.bel (h:Core w0 w r bt bm s bi x Mt Mr l L):Below w0.heap.size w0 w:=h.2
theorem Core.loose (h:Core w0 w r bt bm s bi x Mt Mr l L):Core w0 w r bt bm s bi none Mt Mr l L:=by
 obtain ⟨⟨F,Fm,G,h1,h2,h3,h4,h5,h6,h7,h8,_⟩,hB⟩:=h
 exact ⟨⟨F,Fm,G,h1,h2,h3,h4,h5,h6,h7,h8,fun p hp=>by cases hp⟩,hB⟩
theorem Core.box (h:Core w0 w r bt bm s bi none Mt Mr l L) (hb:Below w.heap.size w w') {bx:Nat} (hx:bx=w.heap.size) {y:Ac} (hY:AcAt w' bx y):Core w0 w' r bt bm s bi (some (bx,y)) Mt Mr l L:=by
 obtain ⟨⟨F,Fm,G,h⟩,hB⟩:=h
 have h':=h.below hb
 obtain ⟨⟨lp,g1,_⟩,g2,g3,g4,_⟩:=h
 obtain ⟨h1,h2,h3,h4,h5,h6,h7,h8,_⟩:=h'
 subst hx
 refine ⟨⟨F,Fm,G,h1,h2,h3,h4,h5,h6,h7,h8,fun p hp=>?_⟩,tb_ hB hb⟩
 cases hp
 refine ⟨hY,fun hf=>?_,fun hf=>?_,fun hf=>?_,fun e=>?_⟩
 ·exact absurd (g1.1 _ hf) (Nat.lt_irrefl _)
 ·exact absurd (g2.2.1 _ hf).2 (Nat.lt_irrefl _)
 ·exact absurd (g3.1 _ hf) (Nat.lt_irrefl _)
 ·have e2:w.heap.size=bi:=e
  have:=Has.lt g4
  omega
theorem Core.mark {L':List Nat} (h:Core w0 w r bt bm s bi x Mt Mr l L) (i:Nat) (b:Bool) (hL:∀ j,j<100->decide (j ∈ L')=if j=i then b else decide (j ∈ L)):Core w0 (w.setCell ⟨bi,i,none⟩ (.bool b)) r bt bm s bi x Mt Mr l L':=by
 obtain ⟨⟨F,Fm,G,⟨lp,h1,h1'⟩,h2,h3,h4,h5,h6,h7,h8,h9⟩,hB⟩:=h
 have k:Kp (fun i=>i=bi) w (w.setCell ⟨bi,i,none⟩ (.bool b)):=Kp.gb (qbh_ w bi i _) (fun k hk=>(Option.some.inj hk).symm)
 refine ⟨⟨F,Fm,G,⟨lp,h1.on k (fun j hj=>(h6 j hj).2.2.2),h1'⟩,h2.on k (fun j hj=>(h7 j hj).2) (fun j hj=>hj ▸ h5),h3.on k (fun j hj=>(h8 j hj).2),?_,h5,h6,h7,h8,fun p hp=>?_⟩,hB.trans (k.below (fun j hj=>hj ▸ h5) hB.size)⟩
 ·rw[<-mkB_set hL]
  exact Has.set h4 _
 ·obtain ⟨q1,q2⟩:=h9 p hp
  exact ⟨k.has q1 q2.2.2.2,q2⟩
theorem Core.is (h:Core w0 w r bt bm s bi x Mt Mr l L) {i:Nat} (hi:i<100):w.cell? ⟨bi,i,none⟩=some (.bool (decide (i ∈ L))):=by
 obtain ⟨⟨F,Fm,G,_,_,_,h4,_⟩,_⟩:=h
 rw[Has.cell h4 i,qvh_ L hi]
theorem Core.free (h:Core w0 w r bt bm s bi x Mt Mr l L) (i:Nat):w.frozen? ⟨bi,i,none⟩=false:=by
 obtain ⟨⟨F,Fm,G,_,_,_,h4,_⟩,_⟩:=h
 exact Has.free h4 i
theorem RfS.list {B:Nat} {F:Nat->Prop} (h:RfS w B F bm r M):∃ a c,w.cell? ⟨bm,83,none⟩=some (.slice a M.length c):=by
 obtain ⟨_,_,_,p,t,vH,vI,vA,vW,ws,h3,_⟩:=h
 have rH:=h3.rowH
 have c:=rf83 h3.has h3.pok
 rcases Nat.eq_zero_or_pos (M.map (Ent.h r.g)).length with e|e
 ·obtain ⟨a1,hh⟩:=rH
  rcases hh with ⟨hh,_⟩|⟨g,c',cs,hh,_⟩
  ·subst hh;exact ⟨none,0,by rw[c];rw[List.length_map] at e;rw[e]⟩
  ·subst hh;exact ⟨_,c',by rw[c,List.length_map]⟩
 ·obtain ⟨g,c',rfl⟩:=qby_ rH e
  exact ⟨_,c',by rw[c,List.length_map]⟩
theorem Core.list (h:Core w0 w r bt bm s bi x Mt Mr l L):∃ a c,∀ w',Below w.heap.size w w'->w'.cell? ⟨bm,83,none⟩=some (.slice a Mr.length c):=by
 obtain ⟨⟨F,Fm,G,_,h2,_⟩,_⟩:=h
 obtain ⟨a,c,h⟩:=h2.list
 exact ⟨a,c,fun w' hb=>(hb.cell (p:=⟨bm,83,none⟩) (block_lt_of_cell h)).trans h⟩
theorem Core.act {bx:Nat} {y:Ac} (h:Core w0 w r bt bm s bi (some (bx,y)) Mt Mr l L):AcAt w bx y:=by
 obtain ⟨⟨F,Fm,G,_,_,_,_,_,_,_,_,h9⟩,_⟩:=h
 exact (h9 _ rfl).1
theorem qzi_ (h:Core w0 w r bt bm s bi x M Mr l L) (hM:Ok r M) (hl:M.length<=800) (hgl:r.gs.length<=1000) (hcl:r.cs.length<=1000) (hT:Tab w) (y:Hd) (ho:y.ok) (now:Int) :
  Calls Tryz.prog 11 #[.pointer (some ⟨bt,0,none⟩),.agg (hdA y),.int .i64 now] w fun e w'=>e = .returned (.tuple #[.int .i64 (Ar.add r M y now).1.1,.int .i64 (Ar.add r M y now).1.2.1,.int .i64 (Ar.add r M y now).1.2.2])/\Core w0 w' r bt bm s bi x (Ar.add r M y now).2 Mr l L:=by
 obtain ⟨⟨F,Fm,G,⟨lp,h1,h1'⟩,h2,h3,h4,h5,h6,h7,h8,h9⟩,hB⟩:=h
 refine (tadd_at h1 hM hl h1' hgl hcl hT y ho now).mono ?_
 rintro e w' ⟨rfl,⟨lp2,q1,q2⟩,k⟩
 have lm:=h2.2.1
 have lg:=h3.1
 have li:=Has.lt h4
 have hs:=hB.size
 refine ⟨rfl,⟨Nxt F w w',Fm,G,⟨lp2,q2,q1⟩,h2.on k (fun j hj hf=>(h6 j hf).2.1 hj) (fun j hj=>(h6 j hj).1),h3.on k (fun j hj hf=>(h6 j hf).2.2.1 hj),k.has h4 (fun hf=>(h6 _ hf).2.2.2 rfl),h5,?_,h7,h8,fun p hp=>?_⟩,hB.trans (k.below (fun j hj=>(h6 j hj).1) hB.size)⟩
 ·rintro j (hj|hj)
  ·exact h6 j hj
  ·exact ⟨by omega,fun hf=>by have:=lm j hf;omega,fun hf=>by have:=lg j hf;omega,by omega⟩
 ·obtain ⟨p1,p2,p3,p4,p5⟩:=h9 p hp
  have:=Has.lt p1
  exact ⟨k.has p1 p2,fun hf=>hf.elim p2 fun hf=>by omega,p3,p4,p5⟩
theorem qzj_ (h:Core w0 w r bt bm s bi x Mt M l L) (hM:Ok r M) (hl:M.length<=900) (hgl:r.gs.length<=1000) (hcl:r.cs.length<=1000) (hiv:2<=r.p.ivl) (y:Hd) (ho:y.ok) (now:Int) (n1:-9223372036854775808<=now) (n2:now<=9223372036854775807) :
  Calls Tryz.prog 12 #[.pointer (some ⟨bm,0,none⟩),.agg (hdA y),.int .i64 now] w fun e w'=>e = .returned (.tuple #[.int .i64 (Ar.add r M y now).1.1,.int .i64 (Ar.add r M y now).1.2.1,.int .i64 (Ar.add r M y now).1.2.2])/\Core w0 w' r bt bm s bi x Mt (Ar.add r M y now).2 l L:=by
 obtain ⟨⟨F,Fm,G,⟨lp,h1,h1'⟩,h2,h3,h4,h5,h6,h7,h8,h9⟩,hB⟩:=h
 refine (radd_at h2 hM hl hgl hcl hiv y ho now n1 n2).mono ?_
 rintro e w' ⟨rfl,q2,k⟩
 have lf:=h1.1
 have lg:=h3.1
 have li:=Has.lt h4
 refine ⟨rfl,⟨F,Nxt Fm w w',G,⟨lp,h1.on k (fun j hj hf=>(h6 j hj).2.1 hf),h1'⟩,q2,h3.on k (fun j hj hf=>(h7 j hf).1 hj),k.has h4 (fun hf=>(h7 _ hf).2 rfl),h5,fun j hj=>?_,?_,h8,fun p hp=>?_⟩,hB.trans (k.below (fun j hj=>(h2.2.1 j hj).1) hB.size)⟩
 ·obtain ⟨a1,a2,a3⟩:=h6 j hj
  exact ⟨a1,fun hf=>hf.elim a2 fun hf=>by have:=lf j hj;omega,a3⟩
 ·rintro j (hj|hj)
  ·exact h7 j hj
  ·exact ⟨fun hf=>by have:=lg j hf;omega,by omega⟩
 ·obtain ⟨p1,p2,p3,p4,p5⟩:=h9 p hp
  have:=Has.lt p1
  exact ⟨k.has p1 p3,p2,fun hf=>hf.elim p3 fun hf=>by omega,p4,p5⟩
theorem CoreQ.set {B:Nat} {F Fm G:Nat->Prop} {l':List Nat} (h:CoreQ B w r bt bm s bi x Mt Mr l L F Fm G) (hQ:StQ w G s (some ⟨bt,0,none⟩) r M w' l'):CoreQ B w' r bt bm s bi x Mt Mr l' L F Fm (Nxt G w w'):=by
 obtain ⟨⟨lp,h1,h1'⟩,h2,h3,h4,h5,h6,h7,h8,h9⟩:=h
 obtain ⟨q1,_,k⟩:=hQ
 have lf:=h1.1
 have lm:=h2.2.1
 have li:=Has.lt h4
 refine ⟨⟨lp,h1.on k (fun j hj hf=>(h6 j hj).2.2.1 hf),h1'⟩,h2.on k (fun j hj hf=>(h7 j hj).1 hf) (fun j hj=>(h8 j hj).1),q1,k.has h4 (fun hf=>(h8 _ hf).2 rfl),h5,fun j hj=>?_,fun j hj=>?_,?_,fun p hp=>?_⟩
 ·obtain ⟨a1,a2,a3,a4⟩:=h6 j hj
  exact ⟨a1,a2,fun hf=>hf.elim a3 fun hf=>by have:=lf j hj;omega,a4⟩
 ·obtain ⟨a1,a2⟩:=h7 j hj
  exact ⟨fun hf=>hf.elim a1 fun hf=>by have:=lm j hj;omega,a2⟩
 ·rintro j (hj|hj)
  ·exact h8 j hj
  ·exact ⟨by omega,by omega⟩
 ·obtain ⟨p1,p2,p3,p4,p5⟩:=h9 p hp
  have:=Has.lt p1
  exact ⟨k.has p1 p4,p2,p3,fun hf=>hf.elim p4 fun hf=>by omega,p5⟩
theorem qagk_ (h:Core w0 w r bt bm s bi x M Mr l L) (hI:InS r M l) (hM:M.length<=900) (z:Int) :
  Calls Tryz.prog 13 #[.pointer (some ⟨s,0,none⟩),.slice (some ⟨w.heap.size,0,none⟩) 1 1] (w.alloc (.cells #[.int .i64 z] 3)) fun e w'=>e = .returned (.int .i64 (((putI r M l z).length:Int) - (l.length:Int)))/\Core w0 w' r bt bm s bi x M Mr (putI r M l z) L/\InS r M (putI r M l z):=by
 obtain ⟨⟨F,Fm,G,h⟩,hB⟩:=h
 have hb:Below w.heap.size w (w.alloc (.cells #[.int .i64 z] 3)):=(Below.refl _ _).alloc (Nat.le_refl _) _
 have hV:Has (w.alloc (.cells #[.int .i64 z] 3)) w.heap.size #[.int .i64 z] 3:=Has.new _ _
 have hg:=h.2.2.1.1
 replace h:=h.below hb
 have hB2:=tb_ hB hb
 generalize (w.alloc (.cells #[.int .i64 z] 3))=w2 at *
 obtain ⟨⟨lp,h1,_⟩,h2,h3,h4,h5,h6,h7,h8,h9⟩:=id h
 have hs2:=hB2.size
 have:=put_at (.inl ⟨bt,lp,rfl,h1⟩) h3 (fun i hi=>(h6 i hi).2.2.1) hI hM (some ⟨w.heap.size,0,none⟩) 1 1 [z] rfl (by omega) (fun _=>⟨w.heap.size,0,rfl,Has.lt hV,fun hf=>absurd (hg _ hf) (Nat.lt_irrefl _),fun i hi=>by
  obtain rfl:i=0:=by simpa using hi
  exact Has.cell hV 0⟩)
 refine this.mono ?_
 rintro e w' ⟨rfl,hQ⟩
 exact ⟨rfl,⟨⟨F,Fm,_,h.set hQ⟩,hB2.trans (hQ.2.2.below (fun j hj=>(h8 j hj).1) hs2)⟩,hQ.2.1⟩
theorem qzk_ (h:Core w0 w r bt bm s bi x M Mr l L) (hI:InS r M l) (hM:M.length<=900) (z:Int) :
  Calls Tryz.prog 14 #[.pointer (some ⟨s,0,none⟩),.slice (some ⟨w.heap.size,0,none⟩) 1 1] (w.alloc (.cells #[.int .i64 z] 3)) fun e w'=>e = .returned (.int .i64 ((l.length:Int) - ((dropI r M l z).length:Int)))/\Core w0 w' r bt bm s bi x M Mr (dropI r M l z) L/\InS r M (dropI r M l z):=by
 obtain ⟨⟨F,Fm,G,h⟩,hB⟩:=h
 have hb:Below w.heap.size w (w.alloc (.cells #[.int .i64 z] 3)):=(Below.refl _ _).alloc (Nat.le_refl _) _
 have hV:Has (w.alloc (.cells #[.int .i64 z] 3)) w.heap.size #[.int .i64 z] 3:=Has.new _ _
 have hg:=h.2.2.1.1
 replace h:=h.below hb
 have hB2:=tb_ hB hb
 generalize (w.alloc (.cells #[.int .i64 z] 3))=w2 at *
 obtain ⟨⟨lp,h1,_⟩,h2,h3,h4,h5,h6,h7,h8,h9⟩:=id h
 have hs2:=hB2.size
 have:=drop_at (.inl ⟨bt,lp,rfl,h1⟩) h3 (fun i hi=>(h6 i hi).2.2.1) hI hM (some ⟨w.heap.size,0,none⟩) 1 1 [z] rfl (by omega) (fun _=>⟨w.heap.size,0,rfl,Has.lt hV,fun hf=>absurd (hg _ hf) (Nat.lt_irrefl _),fun i hi=>by
  obtain rfl:i=0:=by simpa using hi
  exact Has.cell hV 0⟩)
 refine this.mono ?_
 rintro e w' ⟨rfl,hQ⟩
 exact ⟨rfl,⟨⟨F,Fm,_,h.set hQ⟩,hB2.trans (hQ.2.2.below (fun j hj=>(h8 j hj).1) hs2)⟩,hQ.2.1⟩
theorem qzl_ (h:Core w0 w r bt bm s bi x M Mr l L) (hI:InS r M l) (hM:M.length<=900) (z:Int) :
  Calls Tryz.prog 15 #[.pointer (some ⟨s,0,none⟩),.int .i64 z] w fun e w'=>e = .returned (.int .i64 ((l.length:Int) - (abv r M l z:Int)))/\Core w0 w' r bt bm s bi x M Mr (l.take (abv r M l z)) L/\InS r M (l.take (abv r M l z)):=by
 obtain ⟨⟨F,Fm,G,h⟩,hB⟩:=h
 obtain ⟨⟨lp,h1,_⟩,h2,h3,h4,h5,h6,h7,h8,h9⟩:=id h
 have hs2:=hB.size
 refine (trim_at (.inl ⟨bt,lp,rfl,h1⟩) h3 hI hM z).mono ?_
 rintro e w' ⟨rfl,hQ⟩
 exact ⟨rfl,⟨⟨F,Fm,_,h.set hQ⟩,hB.trans (hQ.2.2.below (fun j hj=>(h8 j hj).1) hs2)⟩,hQ.2.1⟩
theorem qhc_ (h:Core w0 w r bt bm s bi x Mt M l L) {i j:Nat} (hi:i<M.length) (hj:j<M.length):Ca_ 16 #[.pointer (some ⟨bm,0,none⟩),.int .i64 (i:Int),.int .i64 (j:Int)] w (.bool (Hv r M i j)):=by
 obtain ⟨⟨F,Fm,G,_,h2,_⟩,_⟩:=h
 exact qqg_ h2 hi hj
theorem qqj_ (h:Core w0 w r bt bm s bi x Mt M l l) (hI:InS r M l) (hM:M.length<=100) :
  Calls Tryz.prog 17 #[.pointer (some ⟨bm,0,none⟩),.slice (some ⟨bi,0,none⟩) 100 100] w fun e w'=>∃ v,e = .returned v/\RowI w' v (zs l)/\Below w.heap.size w w':=by
 obtain ⟨a,c,hl⟩:=h.list
 have e:Tp.srt (Hv r M) (Tp.marked M.length fun i=>decide (i ∈ l))=l:=Tp.srt_is (Hv_tot r M) (Tp.qlw_ _ _) hI.srt fun y=>by
  rw[Tp.qkh_,decide_eq_true_iff]
  exact ⟨fun hy=>⟨hI.lt y hy,hy⟩,fun hy=>hy.2⟩
 refine (qzg_ bm bi M.length c a (Hv r M) (fun i=>decide (i ∈ l)) hM w (h_ hl) (h_ fun w' i hb hi=>(h.below hb).is hi) (h_ fun w' i j hb hi hj=>qhc_ (h.below hb) hi hj)).mono ?_
 rintro e' w' ⟨v,rfl,h1,_,hb⟩
 rw[e] at h1
 exact ⟨v,rfl,h1,hb⟩
theorem qagl_ (h:Core w0 w r bt bm s bi x Mt Mr l L) (hl:l.length<=1000):Calls Tryz.prog 18 #[.pointer (some ⟨s,0,none⟩)] w fun e w'=>∃ v,e = .returned v/\RowI w' v (zs l)/\Below w.heap.size w w':=by
 obtain ⟨⟨F,Fm,G,_,_,h3,_⟩,_⟩:=h
 refine (all_at h3 hl).mono ?_
 rintro e w' ⟨v,rfl,h1,_,hb⟩
 exact ⟨v,rfl,h1,hb⟩
theorem qagm_ (h:Core w0 w r bt bm s bi x Mt Mr l L):Ca_ 19 #[.pointer (some ⟨s,0,none⟩)] w (.int .i64 (l.length:Int)):=by
 obtain ⟨⟨F,Fm,G,_,_,h3,_⟩,_⟩:=h
 exact qvb_ h3
theorem qzm_ (h:Core w0 w r bt bm s bi x Mt Mr l L):Ca_ 20 #[.pointer (some ⟨s,0,none⟩)] w (.int .i64 (bestI l)):=by
 obtain ⟨⟨F,Fm,G,_,_,h3,_⟩,_⟩:=h
 exact qabg_ h3
theorem qagn_ (h:Core w0 w r bt bm s bi x M Mr l L) (hI:InS r M l) (hM:M.length<=900) (z:Int):Ca_ 21 #[.pointer (some ⟨s,0,none⟩),.int .i64 z] w (.bool (isIn l z)):=by
 obtain ⟨⟨F,Fm,G,⟨lp,h1,_⟩,_,h3,_⟩,_⟩:=h
 exact has_is (.inl ⟨bt,lp,rfl,h1⟩) h3 hI hM z
end
def trL (H:Nat->Bool) (k:Nat) (l:List Nat):List Nat:=l.filter fun j=>!(decide (j<k) && H j)
def trC (H:Nat->Bool) (k:Nat) (l:List Nat):Nat:=(l.filter fun j=>decide (j<k) && H j).length
theorem qago_ (H:Nat->Bool) (l:List Nat):trL H 0 l=l:=by unfold trL;rw[List.filter_eq_self];intro a _;simp
theorem qagp_ (H:Nat->Bool) (l:List Nat):trC H 0 l=0:=by unfold trC;rw[List.length_eq_zero_iff,List.filter_eq_nil_iff];intro a _;simp
theorem qoq_ {H:Nat->Bool} {k j:Nat} {l:List Nat}:j ∈ trL H k l ↔ j ∈ l/\¬(j<k/\H j=true):=by
 unfold trL
 rw[List.mem_filter,Bool.not_eq_true',Bool.and_eq_false_iff,decide_eq_false_iff_not]
 refine and_congr_right fun _=>?_
 cases H j <;> simp
theorem qzn_ {H:Nat->Bool} {k:Nat} {l:List Nat}:decide (k ∈ trL H k l)=decide (k ∈ l):=by
 rw[decide_eq_decide,qoq_]
 exact ⟨fun h=>h.1,fun h=>⟨h,fun h=>absurd h.1 (Nat.lt_irrefl _)⟩⟩
theorem qor_ {H:Nat->Bool} {k:Nat} {l:List Nat} (h:k ∈ l->H k=false):trL H (k+1) l=trL H k l/\trC H (k+1) l=trC H k l:=by
 have e:∀ j ∈ l,(decide (j<k+1) && H j)=(decide (j<k) && H j):=by
  intro j hj
  by_cases e:j=k
  ·subst e;rw[h hj];simp
  ·rw[show decide (j<k+1)=decide (j<k) from decide_eq_decide.2 (by omega)]
 constructor
 ·unfold trL;exact List.filter_congr fun j hj=>by rw[e j hj]
 ·unfold trC;rw[List.filter_congr e]
theorem qvi_ {H:Nat->Bool} {k:Nat} (hk:H k=true):∀ {l:List Nat},l.Nodup->k ∈ l->trC H (k+1) l=trC H k l+1
 | [],_,h=>by simp at h
 | a :: l,hn,h=>by
  obtain ⟨h1,h2⟩:=List.nodup_cons.1 hn
  by_cases e:a=k
  ·subst e
   have:=(qor_ (H:=H) (k:=a) (l:=l) fun hh=>absurd hh h1).2
   unfold trC at this |-
   rw[List.filter_cons_of_pos (by simp[hk]),List.filter_cons_of_neg (by simp),List.length_cons,this]
  ·have hl:k ∈ l:=by
    rcases List.mem_cons.1 h with hh|hh
    ·exact absurd hh.symm e
    ·exact hh
   have:=qvi_ hk h2 hl
   unfold trC at this |-
   rw[List.filter_cons,List.filter_cons,show decide (a<k+1)=decide (a<k) from decide_eq_decide.2 (by omega)]
   by_cases c:(decide (a<k) && H a)=true
   ·rw[if_pos c,if_pos c,List.length_cons,List.length_cons,this]
   ·rw[if_neg c,if_neg c,this]
theorem trL_hit {H:Nat->Bool} {k:Nat} {l:List Nat} (hk:H k=true) (j:Nat):decide (j ∈ trL H (k+1) l)=if j=k then false else decide (j ∈ trL H k l):=by
 by_cases e:j=k
 ·subst e
  rw[if_pos rfl,decide_eq_false_iff_not,qoq_]
  exact fun h=>h.2 ⟨by omega,hk⟩
 ·rw[if_neg e,decide_eq_decide,qoq_,qoq_]
  constructor
  ·rintro ⟨h1,h2⟩;exact ⟨h1,fun h=>h2 ⟨by omega,h.2⟩⟩
  ·rintro ⟨h1,h2⟩;exact ⟨h1,fun h=>h2 ⟨by omega,h.2⟩⟩
theorem trL_end {H:Nat->Bool} {n:Nat} {l:List Nat} (h:∀ j ∈ l,j<n):trL H n l=l.filter fun j=>!H j:=by
 unfold trL
 exact List.filter_congr fun j hj=>by rw[decide_eq_true (h j hj),Bool.true_and]
theorem trC_end {H:Nat->Bool} {n:Nat} {l:List Nat} (h:∀ j ∈ l,j<n):trC H n l=(l.filter H).length:=by
 unfold trC
 rw[List.filter_congr fun j hj=>by rw[decide_eq_true (h j hj),Bool.true_and]]
theorem tr_abv {r:Ru} {M:List Ent} {l:List Nat} (hI:InS r M l) (z:Int):∀ H:Nat->Bool,(∀j,H j=(decide (0<=z/\z<(M.length:Int)) && Hv r M z.toNat j))->trL H M.length l=l.take (abv r M l z)/\trC H M.length l=l.length - abv r M l z:=by
 intro H hH
 rw[trL_end hI.lt,trC_end hI.lt]
 have e:H=fun j=>decide (0<=z/\z<(M.length:Int)) && Hv r M z.toNat j:=funext hH
 rw[e]
 unfold abv
 by_cases hp:0<=z/\z<(M.length:Int)
 ·rw[if_pos hp,decide_eq_true hp]
  simp only[Bool.true_and]
  exact ⟨Tp.qiq_ (Hv_tot r M) hI.srt,Tp.qsz_ (Hv_tot r M) hI.srt⟩
 ·rw[if_neg hp,decide_eq_false hp]
  simp
theorem qzo_ {r:Ru} {M:List Ent} {l:List Nat} {N:Nat} (hN:N<M.length) (j:Nat):decide (j ∈ putI r M l (N:Int))=if j=N then true else decide (j ∈ l):=by
 by_cases e:j=N
 ·subst e
  rw[if_pos rfl,decide_eq_true_iff,qve_]
  exact .inr ⟨rfl,hN⟩
 ·rw[if_neg e,decide_eq_decide,qve_]
  exact ⟨fun h=>h.elim id fun h=>absurd (by omega) e,.inl⟩
theorem qvj_ {r:Ru} {M:List Ent} {l:List Nat} (hI:InS r M l) {N:Nat} (j:Nat):decide (j ∈ dropI r M l (N:Int))=if j=N then false else decide (j ∈ l):=by
 by_cases e:j=N
 ·subst e
  rw[if_pos rfl,decide_eq_false_iff_not,qon_ hI]
  exact fun h=>h.2 rfl
 ·rw[if_neg e,decide_eq_decide,qon_ hI]
  exact ⟨fun h=>h.1,fun h=>⟨h,fun hh=>e (by omega)⟩⟩
theorem put_len {r:Ru} {M:List Ent} {l:List Nat} (z:Int):((putI r M l z).length:Int) - (l.length:Int)=if isIn l z=true then 0 else if 0<=z/\z<(M.length:Int) then 1 else 0:=by
 unfold putI
 split
 ·omega
 ·split
  ·rw[Tp.qkg_];omega
  ·omega
theorem qagq_ {r:Ru} {M:List Ent} {l:List Nat} (hI:InS r M l) (z:Int):(l.length:Int) - ((dropI r M l z).length:Int)=if isIn l z=true then 1 else 0:=by
 by_cases h:isIn l z=true
 ·obtain ⟨hk,_⟩:=qom_ hI h
  rw[if_pos h,qfa_ h,List.length_eraseIdx,if_pos hk]
  omega
 ·rw[if_neg h]
  unfold dropI
  rw[if_neg h]
  omega
theorem qmq_ {r:Ru} {M:List Ent} {l:List Nat} (hI:InS r M l) {z:Int} (hz:¬(0<=z/\z<(M.length:Int))):isIn l z=false:=by
 cases e:isIn l z with
 | false=>rfl
 | true=>exact absurd (qeq_ hI e) hz
theorem qabm_ {r:Ru} {M N:List Ent} {i:Nat} (hi:i<M.length):wtM r (M ++ N) i=wtM r M i:=by
 unfold wtM
 rw[List.getD_eq_getElem?_getD,List.getD_eq_getElem?_getD,List.getElem?_append_left hi]
theorem InS.app {r:Ru} {M:List Ent} {l:List Nat} (h:InS r M l) (N:List Ent):InS r (M ++ N) l:=by
 refine ⟨Tp.Srt.congr h.srt fun x hx y hy e=>?_,fun x hx=>by rw[List.length_append];have:=h.lt x hx;omega⟩
 unfold Hv Tp.byW at e |-
 rw[qabm_ (h.lt x hx),qabm_ (h.lt y hy)]
 exact e
theorem add_app (r:Ru) (M:List Ent) (h:Hd) (now:Int):∃ N,(Ar.add r M h now).2=M ++ N:=by
 unfold Ar.add
 repeat' split
 all_goals first|exact ⟨[],(List.append_nil _).symm⟩|exact ⟨_,rfl⟩
theorem InS.add {r:Ru} {M:List Ent} {l:List Nat} (h:InS r M l) (y:Hd) (now:Int):InS r (Ar.add r M y now).2 l:=by
 obtain ⟨N,e⟩:=add_app r M y now
 rw[e]
 exact h.app N
theorem mkIn (w:World):(Instr.makeSlice 44 (.int .i64 100) (.int .i64 100)).run Tryz.prog w = .ok (.slice (some ⟨w.heap.size,0,none⟩) 100 100) (w.alloc (.cells (mkB []) 4)):=by
 rw[mkB_nil]
 kernel_rfl
theorem put_nil (a:Option Addr) (n c:Nat) (w:World):Ca_ 13 #[.pointer none,.slice a n c] w (.int .i64 0):=by
 have hB:=Below.refl w.heap.size w
 go_enter Tryz.func13,Tryz.ntmps13
 go_wp2_with fail
 go_ret
 exact ⟨rfl,hB⟩
theorem qagr_ (a:Option Addr) (n c:Nat) (w:World):Ca_ 14 #[.pointer none,.slice a n c] w (.int .i64 0):=by
 have hB:=Below.refl w.heap.size w
 go_enter Tryz.func14,Tryz.ntmps14
 go_wp2_with fail
 go_ret
 exact ⟨rfl,hB⟩
theorem qags_ (x:Int) (w:World):Ca_ 15 #[.pointer none,.int .i64 x] w (.int .i64 0):=by
 have hB:=Below.refl w.heap.size w
 go_enter Tryz.func15,Tryz.ntmps15
 go_wp2_with fail
 go_ret
 exact ⟨rfl,hB⟩
theorem all_nil (w:World):Ca_ 18 #[.pointer none] w (.slice none 0 0):=by
 have hB:=Below.refl w.heap.size w
 go_enter Tryz.func18,Tryz.ntmps18
 go_wp2_with fail
 go_ret
 exact ⟨rfl,hB⟩
theorem qagt_ (x:Int) (w:World):Ca_ 21 #[.pointer none,.int .i64 x] w (.bool false):=by
 have hB:=Below.refl w.heap.size w
 go_enter Tryz.func21,Tryz.ntmps21
 go_wp2_with fail
 go_ret
 exact ⟨rfl,hB⟩
theorem qagu_ (w:World):Ca_ 20 #[.pointer none] w (.int .i64 (-1)):=qol_ _ w (h_ (qux_ w))
theorem qagv_ (w:World):Calls Tryz.prog 10 #[.pointer none] w fun e w'=>∃ s,e = .returned (.pointer (some ⟨s,0,none⟩))/\Below w.heap.size w w'/\Calls Tryz.prog 13 #[.pointer (some ⟨s,0,none⟩),.slice (some ⟨w'.heap.size,0,none⟩) 1 1] (w'.alloc (.cells #[.int .i64 0] 3)) fun e w''=>e = .returned (.int .i64 0)/\Below w.heap.size w w'':=by
 refine (qvc_ none w).mono ?_
 rintro e w' ⟨s,rfl,hs,hT,hb⟩
 refine ⟨s,rfl,hb,?_⟩
 have hb2:Below w'.heap.size w' (w'.alloc (.cells #[.int .i64 0] 3)):=(Below.refl _ _).alloc (Nat.le_refl _) _
 have hV:Has (w'.alloc (.cells #[.int .i64 0] 3)) w'.heap.size #[.int .i64 0] 3:=Has.new _ _
 have hg:=hT.1
 replace hT:=hT.below hb2
 replace hb:=tb_ hb hb2
 generalize (w'.alloc (.cells #[.int .i64 0] 3))=w2 at *
 refine (put_at (F:=fun _=>False) (r:=⟨NN.prL,hdZ,[],[],0⟩) (M:=[]) (.inr ⟨rfl,rfl⟩) hT (fun _ h=>h.elim) (InS.nil _ _) (by simp) (some ⟨w'.heap.size,0,none⟩) 1 1 [0] rfl (by omega) (fun _=>⟨w'.heap.size,0,rfl,Has.lt hV,fun hf=>absurd (hg _ hf) (Nat.lt_irrefl _),fun i hi=>by
  obtain rfl:i=0:=by simpa using hi
  exact Has.cell hV 0⟩)).mono ?_
 rintro e w3 ⟨rfl,hQ⟩
 exact ⟨by simp[putI,isIn],hb.trans (hQ.2.2.below (fun j hj=>by rw[hj];exact hs) hb.size)⟩
end Go.Proofs.YtbgjiplfaolpjaaGreatDoor.An
