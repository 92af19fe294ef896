import Derived.Test.YtbgjiplfaolpjaaGreatDoorTIdm
import Derived.Test.YtbgjiplfaolpjaaGreatDoorTTpRow
import Derived.Shelf.Abstract
import Derived.Test.YtbgjiplfaolpjaaGreatDoorTBunQ42
set_option maxRecDepth 100000
set_option maxHeartbeats 4000000
namespace Go.Proofs.YtbgjiplfaolpjaaGreatDoor.An
open Go.RowKit Mem Sc
set_option maxRecDepth 100000
theorem qqf_ (g:FuncId) (cb:Array Value) (n k:Nat) (p:Nat->Bool) (w:World) (hsz:n<4611686018427387904) (hk:k<=n) (H1:Hid (∀i,i<k->p i=false)) (H2:Hid (∀i,k<=i->i<n->p i=true)) (eg:∀ args w,(callFunc g args).run Tryz.prog w = .ok (.enter g args) w)
  (KP:Hid (∀w' i,i<n->Below w.heap.size w w'->Calls Tryz.prog g (#[.int .i64 (i:Int)] ++ cb) w' fun e w''=>e = .returned (.bool (p i))/\Below w'.heap.size w' w'')) :
  Ca_ 73 #[.int .i64 (n:Int),.func (.func g) #[] cb] w (.int .i64 (k:Int)):=by
 have hB:=Below.refl w.heap.size w
 go_enter Tryz.func73,Tryz.ntmps73
 go_wp2_with fail
 go_loopw [5,6] (fun s5 s6 wr=>∃ lo hi:Nat,s5 = .int .i64 (lo:Int)/\s6 = .int .i64 (hi:Int)/\lo<=k/\k<=hi/\hi<=n/\Below w.heap.size w wr) (fun s5 s6 _=>((intOf s6) - (intOf s5)).toNat)
 case atStart=>exact ⟨0,n,rfl,rfl,by omega,hk,Nat.le_refl _,hB⟩
 case round=>
  clear hB
  obtain ⟨lo,hi,rfl,rfl,hlo,hhi,hin,hB⟩:=hrel
  by_cases hlt:lo<hi
  ·obtain ⟨m,hm⟩:∃ m,m=(lo+hi) / 2:=⟨_,rfl⟩
   have hc:=KP.out _ m (by omega) hB
   have h1:=H1.out m
   have h2:=H2.out m
   have hmi:(m:Int)=((lo:Int)+(hi:Int)) / 2:=by omega
   rw[hmi] at hc
   have HM:Hid (m=(lo+hi) / 2):=h_ hm
   cases hp:p m <;> rw[hp] at hc
   ·have HK:Hid (m<k):=h_ (Nat.lt_of_not_ge fun hh=>by have:=h2 hh (by omega);rw[hp] at this;cases this)
    clear h1 h2 hp hm hmi
    go_wp2_with (go_at_fn g;refine hc.mono ?_;rintro e w' ⟨rfl,hb⟩)
    go_roundw
    case rel=>exact ⟨m+1,hi,by have:=HM.out;go_num,rfl,by have:=HK.out;omega,hhi,hin,tb_ hB hb⟩
    case measure=>have:=HM.out;simp[intOf];omega
   ·have HK:Hid (k<=m):=h_ (Nat.le_of_not_lt fun hh=>by have:=h1 hh;rw[hp] at this;cases this)
    clear h1 h2 hp hm hmi
    go_wp2_with (go_at_fn g;refine hc.mono ?_;rintro e w' ⟨rfl,hb⟩)
    go_roundw
    case rel=>exact ⟨lo,m,rfl,by have:=HM.out;go_num,hlo,HK.out,by have:=HM.out;omega,tb_ hB hb⟩
    case measure=>have:=HM.out;simp[intOf];omega
  ·obtain rfl:lo=k:=by omega
   obtain rfl:hi=lo:=by omega
   go_wp2_with fail
   go_ret
   exact ⟨rfl,hB⟩
def stA (q:Option Addr) (lv:Value):Array Value:=#[.pointer q,lv]
theorem st0 {w:World} {s:Nat} {q:Option Addr} {lv:Value} (h:Has w s (stA q lv) 78):w.cell? ⟨s,0,none⟩=some (.pointer q):=Has.cell h 0
theorem st1 {w:World} {s:Nat} {q:Option Addr} {lv:Value} (h:Has w s (stA q lv) 78):w.cell? ⟨s,1,none⟩=some lv:=Has.cell h 1
theorem st_set {w:World} {s:Nat} {q:Option Addr} {lv:Value} (h:Has w s (stA q lv) 78) (v:Value):Has (w.setCell ⟨s,1,none⟩ v) s (stA q v) 78:=Has.set (i:=1) h v
theorem seek1_w (p1 p2 s:Nat) (q:Option Addr) (g n c i:Nat) (x y:Int) (hv:Bool) (w:World) (c1:w.cell? ⟨p1,0,none⟩=some (.pointer (some ⟨s,0,none⟩))) (c2:w.cell? ⟨p2,0,none⟩=some (.int .i64 x)) (c3:w.cell? ⟨s,0,none⟩=some (.pointer q)) (c4:w.cell? ⟨s,1,none⟩=some (.slice (some ⟨g,0,none⟩) n c)) (c5:w.cell? ⟨g,i,none⟩=some (.int .i64 y)) (hi:i<n)
  (KH:HK_ w 22 #[.pointer q,.int .i64 y,.int .i64 x] (.bool hv)) :
  Ca_ 74 #[.int .i64 (i:Int),.pointer (some ⟨p1,0,none⟩),.pointer (some ⟨p2,0,none⟩)] w (.bool (!hv)):=by
 have hR:∀ d os,Below w.heap.size w (Sort.grow (redrawn w d) os):=fun d os=>below_regrown w d os
 have q1:∀ d os,(Sort.grow (redrawn w d) os).cell? ⟨p1,0,none⟩=some (.pointer (some ⟨s,0,none⟩)):=cell_regrown c1
 have q2:∀ d os,(Sort.grow (redrawn w d) os).cell? ⟨p2,0,none⟩=some (.int .i64 x):=cell_regrown c2
 have q3:∀ d os,(Sort.grow (redrawn w d) os).cell? ⟨s,0,none⟩=some (.pointer q):=cell_regrown c3
 have q4:∀ d os,(Sort.grow (redrawn w d) os).cell? ⟨s,1,none⟩=some (.slice (some ⟨g,0,none⟩) n c):=cell_regrown c4
 have q5:∀ d os,(Sort.grow (redrawn w d) os).cell? ⟨g,i,none⟩=some (.int .i64 y):=cell_regrown c5
 clear c1 c2 c3 c4 c5
 go_enter Tryz.func74,Tryz.ntmps74
 go_wp2_with fail
 refine wp_region_quiet_below (by kernel_rfl) (by kernel_rfl) ?_
 repeat (first
  | go_big_quiet_step ((go_at_call 22;exact Calls.regrown_of (KH.out _ (hR _ _)))))
 refine wpQuiet_nil ?_
 intro v3 hw'
 have hb:=qk_ v3 hw'
 clear hw' hR q1 q2 q3 q4 q5
 go_wp2_with fail
 go_ret
 exact ⟨rfl,hb⟩
theorem qzf_ (p1 p2 s:Nat) (q:Option Addr) (g n c i:Nat) (x y:Int) (hv:Bool) (w:World) (c1:w.cell? ⟨p1,0,none⟩=some (.pointer (some ⟨s,0,none⟩))) (c2:w.cell? ⟨p2,0,none⟩=some (.int .i64 x)) (c3:w.cell? ⟨s,0,none⟩=some (.pointer q)) (c4:w.cell? ⟨s,1,none⟩=some (.slice (some ⟨g,0,none⟩) n c)) (c5:w.cell? ⟨g,i,none⟩=some (.int .i64 y)) (hi:i<n)
  (KH:HK_ w 22 #[.pointer q,.int .i64 x,.int .i64 y] (.bool hv)) :
  Ca_ 77 #[.int .i64 (i:Int),.pointer (some ⟨p1,0,none⟩),.pointer (some ⟨p2,0,none⟩)] w (.bool hv):=by
 have hR:∀ d os,Below w.heap.size w (Sort.grow (redrawn w d) os):=fun d os=>below_regrown w d os
 have q1:∀ d os,(Sort.grow (redrawn w d) os).cell? ⟨p1,0,none⟩=some (.pointer (some ⟨s,0,none⟩)):=cell_regrown c1
 have q2:∀ d os,(Sort.grow (redrawn w d) os).cell? ⟨p2,0,none⟩=some (.int .i64 x):=cell_regrown c2
 have q3:∀ d os,(Sort.grow (redrawn w d) os).cell? ⟨s,0,none⟩=some (.pointer q):=cell_regrown c3
 have q4:∀ d os,(Sort.grow (redrawn w d) os).cell? ⟨s,1,none⟩=some (.slice (some ⟨g,0,none⟩) n c):=cell_regrown c4
 have q5:∀ d os,(Sort.grow (redrawn w d) os).cell? ⟨g,i,none⟩=some (.int .i64 y):=cell_regrown c5
 clear c1 c2 c3 c4 c5
 go_enter Tryz.func77,Tryz.ntmps77
 go_wp2_with fail
 refine wp_region_quiet_below (by kernel_rfl) (by kernel_rfl) ?_
 repeat (first
  | go_big_quiet_step ((go_at_call 22;exact Calls.regrown_of (KH.out _ (hR _ _)))))
 refine wpQuiet_nil ?_
 intro v3 hw'
 have hb:=qk_ v3 hw'
 clear hw' hR q1 q2 q3 q4 q5
 go_wp2_with fail
 go_ret
 exact ⟨rfl,hb⟩
def CellsI (w:World) (ad:Option Addr) (l:List Int):Prop:=∀ i (hi:i<l.length),∃ g,ad=some ⟨g,0,none⟩/\w.cell? ⟨g,i,none⟩=some (.int .i64 l[i])
theorem CellsI.below {w w':World} {ad:Option Addr} {l:List Int} (h:CellsI w ad l) (hb:Below w.heap.size w w'):CellsI w' ad l:=fun i hi=>by
 obtain ⟨g,h1,h2⟩:=h i hi
 exact ⟨g,h1,(hb.cell (p:=⟨g,i,none⟩) (block_lt_of_cell h2)).trans h2⟩
theorem seek_w (s:Nat) (q:Option Addr) (ad:Option Addr) (l:List Int) (n c:Nat) (x:Int) (k:Nat) (p:Nat->Bool) (hn:n=l.length) (hn1:n<=1000) (hk:k<=n) (H1:Hid (∀i,i<k->p i=false)) (H2:Hid (∀i,k<=i->i<n->p i=true)) (g2:Bool) (hg:Hid (∀h:k<l.length,(l[k]==x)=g2)) (hg':k=n->g2=false) (w:World) (hS:Has w s (stA q (.slice ad n c)) 78) (hC:CellsI w ad l)
  (KH:Hid (∀w' i (hi:i<l.length),Below w.heap.size w w'->Calls Tryz.prog 22 #[.pointer q,.int .i64 l[i],.int .i64 x] w' fun e w''=>e = .returned (.bool (!p i))/\Below w'.heap.size w' w'')) :
  Ca_ 38 #[.pointer (some ⟨s,0,none⟩),.int .i64 x] w (.tuple #[.int .i64 (k:Int),.bool g2]):=by
 have HN:=h_ hn
 have HC:=h_ hC
 clear hn hC
 go_enter Tryz.func38,Tryz.ntmps38
 go_upto_region 1 with fail
 generalize hw0:World.alloc _ _=v0
 have hB:Below w.heap.size w v0:=by rw[<-hw0];exact ((Below.refl _ _).alloc (Nat.le_refl _) _).alloc (by simp) _
 have b1:v0.cell? ⟨w.heap.size,0,none⟩=some (.pointer (some ⟨s,0,none⟩)):=by rw[<-hw0];exact Has.cell (Has.alloc (Has.new #[.pointer (some ⟨s,0,none⟩)] _) _) 0
 have b2:v0.cell? ⟨w.heap.size+1,0,none⟩=some (.int .i64 x):=by rw[<-hw0];exact NN.Has.cell (NN.Has.new1 _ #[.int .i64 x] _) 0
 clear hw0
 obtain ⟨p1,e1⟩:∃ y,y=w.heap.size:=⟨_,rfl⟩
 obtain ⟨p2,e2⟩:∃ y,y=w.heap.size+1:=⟨_,rfl⟩
 rw[<-e2] at b2 |-
 rw[<-e1] at b1 |-
 clear e1 e2
 have hS0:=qd_ hB hS (Has.lt hS)
 have c3:=st0 hS0
 have c4:=st1 hS0
 have B1:=h_ b1
 have B2:=h_ b2
 have C3:=h_ c3
 have C4:=h_ c4
 have HC0:=h_ (HC.out.below hB)
 have HB0:=h_ hB
 clear hS hS0 HC b2 c3
 go_wp2_with fail
 refine (qqf_ 74 #[.pointer (some ⟨p1,0,none⟩),.pointer (some ⟨p2,0,none⟩)] n k p v0 (by omega) hk H1 H2 (enters_of Tryz.func74 (by kernel_rfl) rfl) (h_ fun w' i hi hb=>?_)).mono ?_
 ·have hil:i<l.length:=by rw[<-HN.out];exact hi
  obtain ⟨g,hg1,hg2⟩:=HC0.out.below hb i hil
  subst hg1
  have hc:∀ {a:Addr} {u:Value},v0.cell? a=some u->w'.cell? a=some u:=fun h=>(hb.cell (block_lt_of_cell h)).trans h
  have:=seek1_w p1 p2 s q g n c i x l[i] (!p i) w' (hc B1.out) (hc B2.out) (hc C3.out) (hc C4.out) hg2 hi (h_ fun w'' hb'=>KH.out w'' i hil (HB0.out.trans ((tb_ hb hb').mono HB0.out.size)))
  rwa [Bool.not_not] at this
 rintro e v1 ⟨rfl,hb⟩
 have c4':=(hb.cell (p:=⟨s,1,none⟩) (block_lt_of_cell C4.out)).trans C4.out
 have b1':=(hb.cell (p:=⟨p1,0,none⟩) (block_lt_of_cell B1.out)).trans B1.out
 have b2':=(hb.cell (p:=⟨p2,0,none⟩) (block_lt_of_cell B2.out)).trans B2.out
 replace hB:=tb_ hB hb
 have HC1:=h_ (HC0.out.below hb)
 clear hb HC0 B1 B2 C3 C4 c4 b1 HB0 KH H1 H2
 have q1:∀ d os,(Sort.grow (redrawn v1 d) os).cell? ⟨p1,0,none⟩=some (.pointer (some ⟨s,0,none⟩)):=cell_regrown b1'
 have q2:∀ d os,(Sort.grow (redrawn v1 d) os).cell? ⟨p2,0,none⟩=some (.int .i64 x):=cell_regrown b2'
 have q4:∀ d os,(Sort.grow (redrawn v1 d) os).cell? ⟨s,1,none⟩=some (.slice ad n c):=cell_regrown c4'
 by_cases hkn:k<n
 ·have hkl:k<l.length:=by rw[<-HN.out];exact hkn
  obtain ⟨g,hg1,hg2⟩:=HC1.out k hkl
  subst hg1
  have hgg:=hg.out hkl
  generalize l[k]=y at *
  have q5:∀ d os,(Sort.grow (redrawn v1 d) os).cell? ⟨g,k,none⟩=some (.int .i64 y):=cell_regrown hg2
  have hd:decide ((k:Int)<(n:Int))=true:=decide_eq_true (by omega)
  clear hg2 HC1 hkl b1' b2' c4' hg hg'
  go_wp2_with fail
  refine wp_region_quiet_below (by kernel_rfl) (by kernel_rfl) ?_
  repeat (first
   | go_big_quiet_step (fail))
  refine wpQuiet_nil ?_
  intro v3 hw'
  have hb:=qk_ v3 hw'
  replace hB:=tb_ hB hb
  clear hw' hb q1 q2 q4 q5
  go_wp2_with fail
  go_ret2
  exact ⟨rfl,hB⟩
 ·have hd:decide ((k:Int)<(n:Int))=false:=decide_eq_false (by omega)
  have hd2:decide (k<n)=false:=decide_eq_false hkn
  obtain rfl:=hg' (by omega)
  clear HC1 b1' b2' c4' hg hg' hkn
  go_wp2_with fail
  refine wp_region_quiet_below (by kernel_rfl) (by kernel_rfl) ?_
  repeat (first
   | go_big_quiet_step (fail))
  refine wpQuiet_nil ?_
  intro v3 hw'
  have hb:=qk_ v3 hw'
  replace hB:=tb_ hB hb
  clear hw' hb q1 q2 q4
  go_wp2_with fail
  go_ret2
  exact ⟨rfl,hB⟩
theorem qvf_ (s:Nat) (q:Option Addr) (ad:Option Addr) (l:List Int) (n c:Nat) (x:Int) (k:Nat) (p:Nat->Bool) (hn:n=l.length) (hn1:n<=1000) (hk:k<=n) (H1:Hid (∀i,i<k->p i=false)) (H2:Hid (∀i,k<=i->i<n->p i=true)) (w:World) (hS:Has w s (stA q (.slice ad n c)) 78) (hC:CellsI w ad l)
  (KH:Hid (∀w' i (hi:i<l.length),Below w.heap.size w w'->Calls Tryz.prog 22 #[.pointer q,.int .i64 x,.int .i64 l[i]] w' fun e w''=>e = .returned (.bool (p i))/\Below w'.heap.size w' w'')) :
  Ca_ 42 #[.pointer (some ⟨s,0,none⟩),.int .i64 x] w (.int .i64 (k:Int)):=by
 have HN:=h_ hn
 have HC:=h_ hC
 clear hn hC
 go_enter Tryz.func42,Tryz.ntmps42
 go_upto_region 1 with fail
 generalize hw0:World.alloc _ _=v0
 have hB:Below w.heap.size w v0:=by rw[<-hw0];exact ((Below.refl _ _).alloc (Nat.le_refl _) _).alloc (by simp) _
 have b1:v0.cell? ⟨w.heap.size,0,none⟩=some (.pointer (some ⟨s,0,none⟩)):=by rw[<-hw0];exact Has.cell (Has.alloc (Has.new #[.pointer (some ⟨s,0,none⟩)] _) _) 0
 have b2:v0.cell? ⟨w.heap.size+1,0,none⟩=some (.int .i64 x):=by rw[<-hw0];exact NN.Has.cell (NN.Has.new1 _ #[.int .i64 x] _) 0
 clear hw0
 obtain ⟨p1,e1⟩:∃ y,y=w.heap.size:=⟨_,rfl⟩
 obtain ⟨p2,e2⟩:∃ y,y=w.heap.size+1:=⟨_,rfl⟩
 rw[<-e2] at b2 |-
 rw[<-e1] at b1 |-
 clear e1 e2
 have hS0:=qd_ hB hS (Has.lt hS)
 have c3:=st0 hS0
 have c4:=st1 hS0
 have B1:=h_ b1
 have B2:=h_ b2
 have C3:=h_ c3
 have C4:=h_ c4
 have HC0:=h_ (HC.out.below hB)
 have HB0:=h_ hB
 clear hS hS0 HC b2 c3
 go_wp2_with fail
 refine (qqf_ 77 #[.pointer (some ⟨p1,0,none⟩),.pointer (some ⟨p2,0,none⟩)] n k p v0 (by omega) hk H1 H2 (enters_of Tryz.func77 (by kernel_rfl) rfl) (h_ fun w' i hi hb=>?_)).mono ?_
 ·have hil:i<l.length:=by rw[<-HN.out];exact hi
  obtain ⟨g,hg1,hg2⟩:=HC0.out.below hb i hil
  subst hg1
  have hc:∀ {a:Addr} {u:Value},v0.cell? a=some u->w'.cell? a=some u:=fun h=>(hb.cell (block_lt_of_cell h)).trans h
  exact qzf_ p1 p2 s q g n c i x l[i] (p i) w' (hc B1.out) (hc B2.out) (hc C3.out) (hc C4.out) hg2 hi (h_ fun w'' hb'=>KH.out w'' i hil (HB0.out.trans ((tb_ hb hb').mono HB0.out.size)))
 rintro e v1 ⟨rfl,hb⟩
 replace hB:=tb_ hB hb
 clear hb HC0 B1 B2 C3 C4 c4 b1 HB0 KH H1 H2
 go_wp2_with fail
 go_ret
 exact ⟨rfl,hB⟩
theorem may_w (s:Nat) (q:Option Addr) (lv:Value) (x:Int) (e:En) (he:e.ok) (g:Bool) (w:World) (hS:Has w s (stA q lv) 78)
  (KA:Hid (∀w',Below w.heap.size w w'->Calls Tryz.prog 30 #[.pointer q,.int .i64 x] w' fun u w''=>u = .returned (.tuple #[.agg (enA e),.bool g])/\Below w'.heap.size w' w'')) :
  Calls Tryz.prog 39 #[.pointer (some ⟨s,0,none⟩),.int .i64 x] w fun u w'=>u = .returned (.bool g)/\Below w.heap.size w w':=by
 have z0:=qad_ enZ_ok
 have z1:=qad_ he
 have hB:=Below.refl w.heap.size w
 have c0:=st0 hS
 clear hS
 go_enter Tryz.func39,Tryz.ntmps39
 go_wp2_with fail
 refine (KA.out _ hB).mono ?_
 rintro u v1 ⟨rfl,hb⟩
 replace hB:=tb_ hB hb
 clear hb c0
 have hnew:=qcr_ v1
 have hb2:Below v1.heap.size v1 ((v1.alloc (.cells Tryz.zeroCells81 81)).setRow v1.heap.size (enA e)):=below_setRow ((Below.refl _ _).alloc (Nat.le_refl _) _) (Nat.le_refl _) _
 replace hB:=tb_ hB hb2
 clear hb2
 go_wp2_with (with_reducible refine qbo_ rfl _ _ rfl _ _ e rfl rfl rfl z1 hnew z0 ?_)
 go_ret
 exact ⟨rfl,hB⟩
end Go.Proofs.YtbgjiplfaolpjaaGreatDoor.An
namespace Go.Proofs.YtbgjiplfaolpjaaGreatDoor.An
open Go.RowKit Mem Sc NN.Rg2
set_option maxRecDepth 100000
theorem qgn_ {α β:Type} (f:β->α->β) (l:β) (ps:List α) (k:Nat) (hk:k<ps.length):(ps.take (k+1)).foldl f l=f ((ps.take k).foldl f l) ps[k]:=by
 rw[List.take_add_one,List.getElem?_eq_getElem hk,Option.toList_some,List.foldl_append]
 rfl
theorem qhy_ {w:World} {ops:Array Oper} {rest:List Oper} {o:Oper} {a:Act} {Q:Exit->Act->World->Prop} (hgd:o.guard=none) (x y:Operand) (ho:o.op = .store 49 x y) (q:Addr) (ad:Option Addr) (n c:Nat) (u:Value) (hx:a.eval x = .pointer (some q)) (hy:a.eval y = .slice ad n c) (hf:w.frozen? q=false) (hc:w.cell? q=some u)
  (hk:wpList Tryz.prog ops Q rest (a.put o.dst undef) (w.setCell q (.slice ad n c))):wpList Tryz.prog ops Q (o :: rest) a w :=
 wpList_plain hgd fun _ hK=>by
  unfold Oper.wp
  rw[qch_ ho hx hy hf hc]
  exact hK _ _ hk
def Kept (s:Nat) (St:World->List Nat->Prop) (m:List Nat) (e:Ending) (w:World):Prop:=∃ ad n c u,e = .returned (.slice ad n c)/\w.cell? ⟨s,1,none⟩=some u/\w.frozen? ⟨s,1,none⟩=false/\St (w.setCell ⟨s,1,none⟩ (.slice ad n c)) m
def PutR (s:Nat) (St:World->List Nat->Prop) (f:List Nat->Int->List Nat) (wr:World) (m:List Nat) (x:Int):Prop :=
 ∃ (k:Nat) (th is:Bool),(∀w',Below wr.heap.size wr w'->Calls Tryz.prog 38 #[.pointer (some ⟨s,0,none⟩),.int .i64 x] w' fun e w''=>e = .returned (.tuple #[.int .i64 (k:Int),.bool th])/\Below w'.heap.size w' w'')/\(∀w',Below wr.heap.size wr w'->Calls Tryz.prog 39 #[.pointer (some ⟨s,0,none⟩),.int .i64 x] w' fun e w''=>e = .returned (.bool is)/\Below w'.heap.size w' w'')/\((th=true\/is=false)->f m x=m)/\
  (th=false->is=true->∀ w',Below wr.heap.size wr w'->∃ ad c,w'.cell? ⟨s,1,none⟩=some (.slice ad m.length c)/\∀ w2 vb,Below w'.heap.size w' w2->w'.heap.size<=vb->Has w2 vb #[.int .i64 x] 3->Calls Tryz.prog 40 #[.slice ad m.length c,.int .i64 (k:Int),.slice (some ⟨vb,0,none⟩) 1 1] w2 fun e w3=>Kept s St (f m x) e w3)
def DropR (s:Nat) (St:World->List Nat->Prop) (f:List Nat->Int->List Nat) (wr:World) (m:List Nat) (x:Int):Prop :=
 ∃ (k:Nat) (th:Bool),k<=1000/\(∀w',Below wr.heap.size wr w'->Calls Tryz.prog 38 #[.pointer (some ⟨s,0,none⟩),.int .i64 x] w' fun e w''=>e = .returned (.tuple #[.int .i64 (k:Int),.bool th])/\Below w'.heap.size w' w'')/\(th=false->f m x=m)/\
  (th=true->∀ w',Below wr.heap.size wr w'->∃ ad c,w'.cell? ⟨s,1,none⟩=some (.slice ad m.length c)/\∀ z:Int,z=((k+1:Nat):Int)->Calls Tryz.prog 41 #[.slice ad m.length c,.int .i64 (k:Int),.int .i64 z] w' fun e w3=>Kept s St (f m x) e w3)
theorem put_w (s:Nat) (a:Option Addr) (n c:Nat) (ps:List Int) (HN:Hid (n=ps.length)) (hn2:n<=1000) (St:World->List Nat->Prop) (f:List Nat->Int->List Nat) (l:List Nat) (w:World) (HS:Hid (St w l)) (KB:Hid (∀wr wr' m,St wr m->Below wr.heap.size wr wr'->St wr' m)) (KL:Hid (∀wr m,St wr m->m.length<=900/\∃ ad c,wr.cell? ⟨s,1,none⟩=some (.slice ad m.length c)))
  (KA:Hid (∀wr m,St wr m->0<n->∃ ab ao,a=some ⟨ab,ao,none⟩/\∀ i (hi:i<ps.length),wr.cell? ⟨ab,ao+i,none⟩=some (.int .i64 ps[i]))) (KR:Hid (∀wr m x,St wr m->PutR s St f wr m x)) :
  Calls Tryz.prog 13 #[.pointer (some ⟨s,0,none⟩),.slice a n c] w fun e w'=>e = .returned (.int .i64 (((ps.foldl f l).length:Int) - (l.length:Int)))/\St w' (ps.foldl f l):=by
 obtain ⟨hl9,ad,cc,c1⟩:=KL.out w l HS.out
 obtain ⟨L,hL⟩:∃ L,L=l.length:=⟨_,rfl⟩
 rw[<-hL] at c1 hl9 |-
 clear hL
 obtain ⟨R,hR⟩:∃ R,R=ps.foldl f l:=⟨_,rfl⟩
 rw[<-hR]
 obtain ⟨z,hz⟩:∃ z:Int,z=(R.length:Int) - (L:Int):=⟨_,rfl⟩
 rw[<-hz]
 have HR:=h_ hR
 have HZ:=h_ hz
 clear hR hz
 go_enter Tryz.func13,Tryz.ntmps13
 go_wp2_with fail
 go_loopw [19] (fun i wr=>∃ (k:Nat) (m:List Nat),k<=n/\i = .int .i64 (k:Int)/\Hid (m=(ps.take k).foldl f l)/\Hid (St wr m)) (fun i _=>n - (intOf i).toNat)
 case atStart=>exact ⟨0,l,by omega,rfl,h_ rfl,HS⟩
 case round=>
  clear c1 HS
  obtain ⟨k,m,hk,rfl,HM,HSm⟩:=hrel
  by_cases hlt:k<n
  ·obtain ⟨ab,ao,hae,hc⟩:=KA.out wr m HSm.out (by omega)
   subst hae
   have hk2:k<ps.length:=by rw[<-HN.out];exact hlt
   have c0:=hc k hk2
   have HNX:Hid ((ps.take (k+1)).foldl f l=f m ps[k]):=h_ (by rw[qgn_ f l ps k hk2,<-HM.out])
   generalize ps[k]=x at *
   clear hc hk2 HM
   obtain ⟨j,th,is,K1,K2,F1,F2⟩:=KR.out wr m x HSm.out
   replace K1:=h_ K1
   replace K2:=h_ K2
   have HF1:=h_ F1
   have HF2:=h_ F2
   clear F1 F2
   cases th
   case true=>
    have HF:Hid (f m x=m):=h_ (HF1.out (.inl (by simp)))
    clear HF1 HF2 K2
    go_wp2_with fail
    refine (K1.out _ (Below.refl _ _)).mono ?_
    rintro e v1 ⟨rfl,hb1⟩
    clear K1 c0
    go_wp2_with fail
    go_roundw
    case rel=>exact ⟨k+1,m,by omega,by go_num,h_ (by rw[HNX.out,HF.out]),h_ (KB.out _ _ _ HSm.out hb1)⟩
    case measure=>simp[intOf];omega
   case false=>
    cases is
    case false=>
     have HF:Hid (f m x=m):=h_ (HF1.out (.inr (by simp)))
     clear HF1 HF2
     go_wp2_with fail
     refine (K1.out _ (Below.refl _ _)).mono ?_
     rintro e v1 ⟨rfl,hb1⟩
     go_wp2_with fail
     refine (K2.out _ hb1).mono ?_
     rintro e v2 ⟨rfl,hb2⟩
     replace hb1:=tb_ hb1 hb2
     clear hb2
     clear K1 K2 c0
     go_wp2_with fail
     go_roundw
     case rel=>exact ⟨k+1,m,by omega,by go_num,h_ (by rw[HNX.out,HF.out]),h_ (KB.out _ _ _ HSm.out hb1)⟩
     case measure=>simp[intOf];omega
    case true=>
     clear HF1
     go_wp2_with fail
     refine (K1.out _ (Below.refl _ _)).mono ?_
     rintro e v1 ⟨rfl,hb1⟩
     go_wp2_with fail
     refine (K2.out _ hb1).mono ?_
     rintro e v2 ⟨rfl,hb2⟩
     replace hb1:=tb_ hb1 hb2
     clear hb2
     clear K1 K2 c0
     obtain ⟨ad3,c3,c1,KI⟩:=HF2.out (by simp) (by simp) _ hb1
     have HI:=h_ KI
     clear KI HF2
     have hmk:=fun w=>qde_ w x
     go_wp2_with fail
     refine (HI.out _ v2.heap.size ((Below.refl _ _).alloc (Nat.le_refl _) _) (Nat.le_refl _) (Has.new _ _)).mono ?_
     rintro e v3 ⟨ad4,n4,c4,u,rfl,hcell,hfree,hst⟩
     have HST:=h_ hst
     clear hst HI c1 hmk
     go_wp2_with (first|(with_reducible refine qhy_ rfl _ _ rfl ⟨s,1,none⟩ _ _ _ _ rfl rfl hfree hcell ?_))
     go_roundw
     case rel=>exact ⟨k+1,f m x,by omega,by go_num,h_ HNX.out.symm,HST⟩
     case measure=>simp[intOf];omega
  ·obtain rfl:k=n:=by omega
   obtain ⟨hm9,ad2,c2,c1⟩:=KL.out wr m HSm.out
   have HE:m=R:=by rw[HM.out,HN.out,List.take_length,HR.out]
   subst HE
   clear HM
   obtain ⟨M,hM⟩:∃ M,M=m.length:=⟨_,rfl⟩
   rw[<-hM] at c1 hm9
   have wz:IntKind.i64.wrap ((M:Int) - (L:Int))=z:=by rw[IntKind.wrap_i64];have:=HZ.out;omega
   clear hM
   go_wp2_with fail
   go_ret
   exact ⟨rfl,HSm.out⟩
theorem drop_w (s:Nat) (a:Option Addr) (n c:Nat) (ps:List Int) (HN:Hid (n=ps.length)) (hn2:n<=1000) (St:World->List Nat->Prop) (f:List Nat->Int->List Nat) (l:List Nat) (w:World) (HS:Hid (St w l)) (KB:Hid (∀wr wr' m,St wr m->Below wr.heap.size wr wr'->St wr' m)) (KL:Hid (∀wr m,St wr m->m.length<=900/\∃ ad c,wr.cell? ⟨s,1,none⟩=some (.slice ad m.length c)))
  (KA:Hid (∀wr m,St wr m->0<n->∃ ab ao,a=some ⟨ab,ao,none⟩/\∀ i (hi:i<ps.length),wr.cell? ⟨ab,ao+i,none⟩=some (.int .i64 ps[i]))) (KR:Hid (∀wr m x,St wr m->DropR s St f wr m x)) :
  Calls Tryz.prog 14 #[.pointer (some ⟨s,0,none⟩),.slice a n c] w fun e w'=>e = .returned (.int .i64 ((l.length:Int) - ((ps.foldl f l).length:Int)))/\St w' (ps.foldl f l):=by
 obtain ⟨hl9,ad,cc,c1⟩:=KL.out w l HS.out
 obtain ⟨L,hL⟩:∃ L,L=l.length:=⟨_,rfl⟩
 rw[<-hL] at c1 hl9 |-
 clear hL
 obtain ⟨R,hR⟩:∃ R,R=ps.foldl f l:=⟨_,rfl⟩
 rw[<-hR]
 obtain ⟨z,hz⟩:∃ z:Int,z=(L:Int) - (R.length:Int):=⟨_,rfl⟩
 rw[<-hz]
 have HR:=h_ hR
 have HZ:=h_ hz
 clear hR hz
 go_enter Tryz.func14,Tryz.ntmps14
 go_wp2_with fail
 go_loopw [19] (fun i wr=>∃ (k:Nat) (m:List Nat),k<=n/\i = .int .i64 (k:Int)/\Hid (m=(ps.take k).foldl f l)/\Hid (St wr m)) (fun i _=>n - (intOf i).toNat)
 case atStart=>exact ⟨0,l,by omega,rfl,h_ rfl,HS⟩
 case round=>
  clear c1 HS
  obtain ⟨k,m,hk,rfl,HM,HSm⟩:=hrel
  by_cases hlt:k<n
  ·obtain ⟨ab,ao,hae,hc⟩:=KA.out wr m HSm.out (by omega)
   subst hae
   have hk2:k<ps.length:=by rw[<-HN.out];exact hlt
   have c0:=hc k hk2
   have HNX:Hid ((ps.take (k+1)).foldl f l=f m ps[k]):=h_ (by rw[qgn_ f l ps k hk2,<-HM.out])
   generalize ps[k]=x at *
   clear hc hk2 HM
   obtain ⟨j,th,hj,K1,F1,F2⟩:=KR.out wr m x HSm.out
   replace K1:=h_ K1
   have HF1:=h_ F1
   have HF2:=h_ F2
   clear F1 F2
   cases th
   case false=>
    have HF:Hid (f m x=m):=h_ (HF1.out (by simp))
    clear HF1 HF2
    go_wp2_with fail
    refine (K1.out _ (Below.refl _ _)).mono ?_
    rintro e v1 ⟨rfl,hb1⟩
    clear K1 c0
    go_wp2_with fail
    go_roundw
    case rel=>exact ⟨k+1,m,by omega,by go_num,h_ (by rw[HNX.out,HF.out]),h_ (KB.out _ _ _ HSm.out hb1)⟩
    case measure=>simp[intOf];omega
   case true=>
    clear HF1
    go_wp2_with fail
    refine (K1.out _ (Below.refl _ _)).mono ?_
    rintro e v1 ⟨rfl,hb1⟩
    clear K1 c0
    obtain ⟨ad3,c3,c1,KI⟩:=HF2.out (by simp) _ hb1
    obtain ⟨z,hz⟩:∃ z:Int,z=((j+1:Nat):Int):=⟨_,rfl⟩
    have HI:=h_ (KI z hz)
    have wz:IntKind.i64.wrap ((j:Int)+1)=z:=by rw[IntKind.wrap_i64];omega
    clear KI HF2 hz
    go_wp2_with fail
    refine HI.out.mono ?_
    rintro e v3 ⟨ad4,n4,c4,u,rfl,hcell,hfree,hst⟩
    have HST:=h_ hst
    clear hst HI c1 wz
    go_wp2_with (first|(with_reducible refine qhy_ rfl _ _ rfl ⟨s,1,none⟩ _ _ _ _ rfl rfl hfree hcell ?_))
    go_roundw
    case rel=>exact ⟨k+1,f m x,by omega,by go_num,h_ HNX.out.symm,HST⟩
    case measure=>simp[intOf];omega
  ·obtain rfl:k=n:=by omega
   obtain ⟨hm9,ad2,c2,c1⟩:=KL.out wr m HSm.out
   have HE:m=R:=by rw[HM.out,HN.out,List.take_length,HR.out]
   subst HE
   clear HM
   obtain ⟨M,hM⟩:∃ M,M=m.length:=⟨_,rfl⟩
   rw[<-hM] at c1 hm9
   have wz:IntKind.i64.wrap ((L:Int) - (M:Int))=z:=by rw[IntKind.wrap_i64];have:=HZ.out;omega
   clear hM
   go_wp2_with fail
   go_ret
   exact ⟨rfl,HSm.out⟩
def TrR (s:Nat) (x:Int) (v:Value) (k:Nat) (ad:Option Addr) (c:Nat):Nat->Value->Prop
 | 0,u=>u = .pointer (some ⟨s,0,none⟩)
 | 1,u=>u = .pointer (some ⟨s,0,none⟩)
 | 2,u=>u = .pointer (some ⟨s,0,none⟩)
 | 3,u=>u = .pointer (some ⟨s,1,none⟩)
 | 4,u=>u=v
 | 5,u=>u = .pointer (some ⟨s,0,none⟩)
 | 6,u=>u = .int .i64 x
 | 7,u=>u = .int .i64 (k:Int)
 | 8,u=>u = .slice ad k c
 | 9,u=>u = .pointer (some ⟨s,0,none⟩)
 | 10,u=>u = .pointer (some ⟨s,1,none⟩)
 | _,_=>s=s
theorem sfield1 (w:World) (g:Nat):(Instr.fieldAt 78 (.pointer (some ⟨g,0,none⟩)) 1).run Tryz.prog w = .ok (.pointer (some ⟨g,1,none⟩)) w:=by kernel_rfl
theorem trim_w (s:Nat) (q:Option Addr) (pa ad:Option Addr) (n c k:Nat) (hn:n<=1000) (hk:k<=n) (x:Int) (w:World) (hS:Has w s (stA q (.slice pa n c)) 78) (KA:HK_ w 42 #[.pointer (some ⟨s,0,none⟩),.int .i64 x] (.int .i64 (k:Int))) (KS:Hid (∀w',(Instr.sliceAt 49 (.slice pa n c) none (some (.int .i64 (k:Int))) none).run Tryz.prog w' = .ok (.slice ad k c) w')) :
  Calls Tryz.prog 15 #[.pointer (some ⟨s,0,none⟩),.int .i64 x] w fun e w'=>e = .returned (.int .i64 ((n:Int) - (k:Int)))/\Has w' s (stA q (.slice ad k c)) 78/\Kp (fun i=>i=s) w w':=by
 have c1:=st1 hS
 obtain ⟨z,hz⟩:∃ z:Int,z=(n:Int) - (k:Int):=⟨_,rfl⟩
 rw[<-hz]
 have wz:IntKind.i64.wrap ((n:Int) - (k:Int))=z:=by rw[IntKind.wrap_i64];omega
 have hsl:=Has.lt hS
 clear hz
 go_enter Tryz.func15,Tryz.ntmps15
 go_upto_region 4 with fail
 clear c1
 refine qh_ (by kernel_rfl) (fun w'=>Kp (fun i=>i=s) w w') (fun i v' _=>TrR s x (.slice pa n c) k ad c i v') (fun l _ w'=>Ph 11 (fun w'=>Below w.heap.size w w'/\Has w' s (stA q (.slice pa n c)) 78) (fun w'=>Has w' s (stA q (.slice ad k c)) 78) l w') (fun _ _=>True) (fun _ _=>trivial) (fun _ _ _ _ _ _ h=>h) (by kernel_rfl) (qpc_ _ w) ?_ ?_ ?_
 ·exact fun l hl=>Ph.zero hl ⟨(Below.refl _ _).drew,Has.drew hS⟩
 ·intro i o listed a wx ho' hnl hdep hinv
  have hC:=hinv.c
  have hI:=hinv.i
  have hi:i<12:=(Array.getElem?_eq_some_iff.1 ho').1
  obtain rfl|rfl|rfl|rfl|rfl|rfl|rfl|rfl|rfl|rfl|rfl|rfl:i=0\/i=1\/i=2\/i=3\/i=4\/i=5\/i=6\/i=7\/i=8\/i=9\/i=10\/i=11:=by omega
  all_goals obtain rfl:=Option.some.inj ho'
  ·have hsz:=hz_ hinv 0
   exact dv_ 0 hinv (qa_ rfl) (NN.qu_ rfl) (hinv.old' 0) (hI.keep hsz (by decide))
  ·have hsz:=hz_ hinv 1
   exact dv_ 1 hinv (qa_ rfl) (NN.qu_ rfl) (hinv.old' 0) (hI.keep hsz (by decide))
  ·have hsz:=hz_ hinv 2
   exact dv_ 2 hinv (qa_ rfl) (ex_nil rfl (gd_ hinv hdep 1 14)) rfl (hI.keep hsz (by decide))
  ·have hsz:=hz_ hinv 3
   exact dv_ 3 hinv (qa_ rfl) (qau_ rfl (gd_ hinv hdep 2 15) (sfield1 wx s)) rfl (hI.keep hsz (by decide))
  ·have hsz:=hz_ hinv 4
   have hnK:=ah_ hinv hnl 11
   have hpre:=hI.pre hnK hsz (by decide)
   exact dv_ 4 hinv (qa_ rfl) (qcw_ rfl (gd_ hinv hdep 3 16) (st1 hpre.2)) rfl (hI.keep hsz (by decide))
  ·have hsz:=hz_ hinv 5
   exact dv_ 5 hinv (qa_ rfl) (NN.qu_ rfl) (hinv.old' 0) (hI.keep hsz (by decide))
  ·have hsz:=hz_ hinv 6
   exact dv_ 6 hinv (qa_ rfl) (NN.qu_ rfl) (hinv.old' 1) (hI.keep hsz (by decide))
  ·have hsz:=hz_ hinv 7
   have hnK:=ah_ hinv hnl 11
   have hpre:=hI.pre hnK hsz (by decide)
   exact dC_ (S:=T2_) 7 hinv (qa_ rfl) (f:=42) (args:=#[a.eval (.tmp 18),a.eval (.tmp 19)]) (by kernel_rfl) (by rw[show a.eval (.tmp 18)=_ from (gd_ hinv hdep 5 18)];rw[show a.eval (.tmp 19)=_ from (gd_ hinv hdep 6 19)];  exact KA.out wx hpre.1) (fun w' hb=>⟨hC.trans (Kp.of (F:=fun i=>i=s) hb) (fun _ h _=>h),trivial,rfl,Ph.made hnK (⟨tb_ hpre.1 hb,qd_ hb hpre.2 (Has.lt hpre.2)⟩)⟩)
  ·have hsz:=hz_ hinv 8
   exact dv_ 8 hinv (qa_ rfl) (qoz_ rfl (gd_ hinv hdep 4 17) (gd_ hinv hdep 7 20) (KS.out wx)) rfl (hI.keep hsz (by decide))
  ·have hsz:=hz_ hinv 9
   exact dv_ 9 hinv (qa_ rfl) (ex_nil rfl (gd_ hinv hdep 0 13)) rfl (hI.keep hsz (by decide))
  ·have hsz:=hz_ hinv 10
   exact dv_ 10 hinv (qa_ rfl) (qau_ rfl (gd_ hinv hdep 9 22) (sfield1 wx s)) rfl (hI.keep hsz (by decide))
  ·have hsz:=hz_ hinv 11
   have hR0:=hI.1 hnl
   exact ds_ 11 hinv (qa_ rfl) (qch_ rfl (gd_ hinv hdep 10 23) (gd_ hinv hdep 8 21) (Has.free hR0.2 1) (st1 hR0.2)) (hC.trans (Kp.gb (F:=fun i=>i=s) (qbw_ wx s 1 _) (fun k hk=>(Option.some.inj hk).symm)) (fun _ h _=>h)) rfl (Ph.last hsz (st_set hR0.2 _))
 intro listed a' v9 hall hinv
 have hK:=hinv.c
 have hS9:=hinv.i.2 (hall 11 (by decide))
 have e0:a'.eval (.tmp 0) = .pointer (some ⟨s,0,none⟩):=hinv.old' 0
 have e5:a'.eval (.tmp 5) = .int .i64 (n:Int):=hinv.old' 5
 obtain ⟨u,hu⟩:∃ u:Nat->Value,∀ t,u t=a'.eval (.tmp t):=⟨_,fun _=>rfl⟩
 rw[qbc_ a' 31 u hinv.tsize hinv.defers hu]
 rw[<-hu] at e0 e5
 clear hu hinv hall
 simp only[List.range,List.range.loop,List.map_cons,List.map_nil]
 rw[e0,e5]
 clear e0 e5
 have c1:=st1 hS9
 go_wp2_with fail
 go_ret
 exact ⟨rfl,hS9,hK⟩
theorem slen_w (s n c:Nat) (q a:Option Addr) (w:World) (hS:Has w s (stA q (.slice a n c)) 78):Ca_ 19 #[.pointer (some ⟨s,0,none⟩)] w (.int .i64 (n:Int)):=by
 have c1:=st1 hS
 have hB:=Below.refl w.heap.size w
 clear hS
 go_enter Tryz.func19,Tryz.ntmps19
 go_wp2_with fail
 go_ret
 exact ⟨rfl,hB⟩
theorem qtp_ (s n c g:Nat) (q:Option Addr) (x:Int) (w:World) (hS:Has w s (stA q (.slice (some ⟨g,0,none⟩) n c)) 78) (hn:0<n) (hx:w.cell? ⟨g,0,none⟩=some (.int .i64 x)):Ca_ 20 #[.pointer (some ⟨s,0,none⟩)] w (.int .i64 x):=by
 have KL:=h_ (slen_w s n c q _ w hS)
 have c1:=st1 hS
 have hB:=Below.refl w.heap.size w
 have h0:((n:Int)==0)=false:=by rw[beq_eq_false_iff_ne];omega
 clear hS
 go_enter Tryz.func20,Tryz.ntmps20
 go_wp2_with fail
 refine KL.out.mono ?_
 rintro e v1 ⟨rfl,hb⟩
 replace hB:=tb_ hB hb
 have c2:=(hb.cell (p:=⟨s,1,none⟩) (block_lt_of_cell c1)).trans c1
 have c3:=(hb.cell (p:=⟨g,0,none⟩) (block_lt_of_cell hx)).trans hx
 clear hb c1 hx KL
 go_wp2_with fail
 go_ret
 exact ⟨rfl,hB⟩
theorem qtq_ (p:Value) (w:World) (KL:Hid (Ca_ 19 #[p] w (.int .i64 0))):Ca_ 20 #[p] w (.int .i64 (-1)):=by
 go_enter Tryz.func20,Tryz.ntmps20
 go_wp2_with fail
 refine KL.out.mono ?_
 rintro e v1 ⟨rfl,hb⟩
 go_wp2_with fail
 go_ret
 exact ⟨rfl,hb⟩
theorem shas_w (s k:Nat) (x:Int) (g:Bool) (w:World) (KS:Hid (Calls Tryz.prog 38 #[.pointer (some ⟨s,0,none⟩),.int .i64 x] w fun e w''=>e = .returned (.tuple #[.int .i64 (k:Int),.bool g])/\Below w.heap.size w w'')):Ca_ 21 #[.pointer (some ⟨s,0,none⟩),.int .i64 x] w (.bool g):=by
 go_enter Tryz.func21,Tryz.ntmps21
 go_wp2_with fail
 refine KS.out.mono ?_
 rintro e v1 ⟨rfl,hb⟩
 go_wp2_with fail
 go_ret
 exact ⟨rfl,hb⟩
theorem all_w (s:Nat) (q:Option Addr) (v:Value) (hv:∃ a n c,v = .slice a n c) (P:World->World->Value->Prop) (w:World) (hS:Has w s (stA q v) 78) (KC:Hid (Calls Tryz.prog 45 #[v] w fun e w'=>∃ v',e = .returned v'/\P w w' v')):Calls Tryz.prog 18 #[.pointer (some ⟨s,0,none⟩)] w fun e w'=>∃ v',e = .returned v'/\P w w' v':=by
 have c1:=st1 hS
 obtain ⟨a,n,c,rfl⟩:=hv
 clear hS
 go_enter Tryz.func18,Tryz.ntmps18
 go_wp2_with fail
 refine KC.out.mono ?_
 rintro e v1 ⟨v',rfl,hp⟩
 have HP:=h_ hp
 clear hp c1
 go_wp2_with fail
 go_ret
 exact ⟨v',rfl,HP.out⟩
theorem qtr_ (q:Option Addr):Tryz.prog.built 78 [(0,.pointer q)]=some (stA q (.slice none 0 0)):=by kernel_rfl
theorem snew_w (q:Option Addr) (w:World):Calls Tryz.prog 10 #[.pointer q] w fun e w'=>e = .returned (.pointer (some ⟨w.heap.size,0,none⟩))/\w'=w.alloc (.cells (stA q (.slice none 0 0)) 78):=by
 have hbu:=qtr_ q
 go_enter Tryz.func10,Tryz.ntmps10
 go_wp2_with fail
 go_ret
 exact ⟨rfl,rfl⟩
end Go.Proofs.YtbgjiplfaolpjaaGreatDoor.An
namespace Go.Proofs.YtbgjiplfaolpjaaGreatDoor.An
open Go.RowKit Mem Sc
open Ar (Ent Ru entZ Ok isP)
open Tp (Tot Srt spot ins)
def wtM (r:Ru) (M:List Ent) (i:Nat):Nat:=wkOf r (M.getD i entZ).hs
def Hv (r:Ru) (M:List Ent):Nat->Nat->Bool:=Tp.byW (wtM r M)
theorem Hv_tot (r:Ru) (M:List Ent):Tot (Hv r M):=Tp.byW_tot _
theorem wtM_at {r:Ru} {M:List Ent} {i:Nat} {e:Ent} (he:M[i]?=some e):wtM r M i=wkOf r e.hs:=by
 unfold wtM;rw[List.getD_eq_getElem?_getD,he];rfl
theorem hvb_byW (f:Nat->Nat) (x y:Nat):hvb (f x) (f y) x y=Tp.byW f x y:=by
 unfold hvb Tp.byW NN.Nm.cmp
 rcases Nat.lt_trichotomy (f x) (f y) with h|h|h
 ·have h1:¬f y<f x:=by omega
  have h2:¬f x=f y:=by omega
  simp[h,h1,h2]
 ·simp[h]
 ·have h1:¬f x<f y:=by omega
  simp[h,h1]
theorem HvI.place {r:Ru} {M:List Ent} {x y:Nat} (hx:x<M.length) (hy:y<M.length):HvI r M (x:Int) (y:Int) (Hv r M x y):=by
 refine .inr (.inr ⟨x,y,M[x],M[y],rfl,rfl,List.getElem?_eq_getElem hx,List.getElem?_eq_getElem hy,?_⟩)
 unfold Hv
 rw[<-hvb_byW,wtM_at (List.getElem?_eq_getElem hx),wtM_at (List.getElem?_eq_getElem hy)]
def zs (l:List Nat):List Int:=l.map fun (k:Nat)=>(k:Int)
theorem qvg_ (w:World):RowI w (.slice none 0 0) []:=World.ownsRow_nil _ _ _ _
theorem qv_ (l:List Nat):(zs l).length=l.length:=List.length_map ..
theorem zs_get (l:List Nat) (i:Nat) (hi:i<(zs l).length):(zs l)[i]=((l[i]'(by rwa [qv_] at hi):Nat):Int):=by simp[zs]
structure InS (r:Ru) (M:List Ent) (l:List Nat):Prop where
 srt:Srt (Hv r M) l
 lt:∀ x ∈ l,x<M.length
theorem InS.nil (r:Ru) (M:List Ent):InS r M []:=⟨Srt.nil _,fun x h=>by simp at h⟩
theorem qts_ {n:Nat}:∀ {l:List Nat},l.Nodup->(∀x ∈ l,x<n)->l.length<=n:=by
 intro l hn hl
 have:=List.Nodup.length_le_of_subset hn (fun x hx=>List.mem_range.2 (hl x hx))
 rwa [List.length_range] at this
theorem InS.few {r:Ru} {M:List Ent} {l:List Nat} (h:InS r M l):l.length<=M.length:=qts_ (h.srt.nodup (Hv_tot r M)) h.lt
def TreeQ (w:World) (F:Nat->Prop) (q:Option Addr) (r:Ru) (M:List Ent):Prop:=(∃bt ls,q=some ⟨bt,0,none⟩/\TrS w F bt r M ls)\/(q=none/\M=[])
def SetS (w:World) (G:Nat->Prop) (s:Nat) (q:Option Addr) (l:List Nat):Prop :=
 (∀i,G i->i<w.heap.size)/\∃ v,Has w s (stA q v) 78/\RowI w v (zs l)/\G s/\(∀i,v.ownBlock=some i->G i)/\∀ i,v.ownBlock=some i->i ≠ s
section
variable {w w':World} {F G:Nat->Prop} {s:Nat} {q:Option Addr} {r:Ru} {M:List Ent} {l:List Nat}
theorem TreeQ.on {D:Nat->Prop} (h:TreeQ w F q r M) (k:Kp D w w') (hD:∀ i,F i->¬D i):TreeQ w' F q r M :=
 h.imp (fun ⟨bt,ls,e,hS⟩=>⟨bt,ls,e,hS.on k hD⟩) id
theorem TreeQ.below (h:TreeQ w F q r M) (hb:Below w.heap.size w w'):TreeQ w' F q r M:=h.on (D:=fun _=>False) (Kp.of hb) fun _ _ hf=>hf
theorem SetS.on {D:Nat->Prop} (h:SetS w G s q l) (k:Kp D w w') (hD:∀ i,G i->¬D i):SetS w' G s q l:=by
 obtain ⟨h0,v,h1,h2,h3,h4,h5⟩:=h
 exact ⟨fun i hi=>Nat.lt_of_lt_of_le (h0 i hi) k.size,v,k.has h1 (hD s h3),kp_row h2 k fun i hi=>hD i (h4 i hi),h3,h4,h5⟩
theorem SetS.below (h:SetS w G s q l) (hb:Below w.heap.size w w'):SetS w' G s q l:=h.on (D:=fun _=>False) (Kp.of hb) fun _ _ hf=>hf
theorem SetS.wide {G':Nat->Prop} (h:SetS w G s q l) (hG:∀ i,G i->G' i) (hl:∀ i,G' i->i<w.heap.size):SetS w G' s q l:=by
 obtain ⟨h0,v,h1,h2,h3,h4,h5⟩:=h
 exact ⟨hl,v,h1,h2,hG s h3,fun i hi=>hG i (h4 i hi),h5⟩
theorem qaz_ {v:Value} {l:List Int} (h:RowI w v l):∃ a c,v = .slice a l.length c/\CellsI w a l:=by
 rcases qdf_ h with ⟨rfl,rfl⟩|⟨g,c,S,rfl,hg,hc,hm⟩
 ·exact ⟨none,0,rfl,fun i hi=>by simp at hi⟩
 ·refine ⟨some ⟨g,0,none⟩,c,rfl,fun i hi=>⟨g,rfl,?_⟩⟩
  rw[hg.cell i,List.getElem?_toArray,List.getElem?_append_left (by simpa using hi),List.getElem?_map,List.getElem?_eq_getElem hi]
  rfl
theorem TreeQ.heavier (h:TreeQ w F q r M) (x y:Int) (g:Bool) (hg:HvI r M x y g):Ca_ 22 #[.pointer q,.int .i64 x,.int .i64 y] w (.bool g):=by
 rcases h with ⟨bt,ls,rfl,hS⟩|⟨rfl,rfl⟩
 ·exact qfr_ hS x y g hg
 ·have:g=false:=by
   rcases hg with ⟨_,h⟩|⟨h,_⟩|⟨n,m,e,d,_,_,h,_⟩
   ·exact h
   ·exact absurd (Int.lt_of_le_of_lt h.1 h.2) (Int.lt_irrefl _)
   ·simp at h
  subst this
  exact qji_ x y w
theorem TreeQ.at (h:TreeQ w F q r M) (x:Int):∃ e:En,e.ok/\∀ w',Below w.heap.size w w'->Calls Tryz.prog 30 #[.pointer q,.int .i64 x] w' fun u w''=>u = .returned (.tuple #[.agg (enA e),.bool (decide (0<=x/\x<(M.length:Int)))])/\Below w'.heap.size w' w'':=by
 rcases h with ⟨bt,ls,rfl,hS⟩|⟨rfl,rfl⟩
 ·by_cases hx:0<=x/\x<(M.length:Int)
  ·obtain ⟨n,rfl⟩:=Int.eq_ofNat_of_zero_le hx.1
   have hn:n<M.length:=by omega
   obtain ⟨Fa,ab,k1,k2⟩:=hS.parts
   refine ⟨_,qet_ k2 (List.getElem?_eq_getElem hn),fun w' hb=>?_⟩
   rw[decide_eq_true hx]
   exact tat_at (hS.below hb) (List.getElem?_eq_getElem hn) _ rfl
  ·refine ⟨enN,enN_ok,fun w' hb=>?_⟩
   rw[decide_eq_false hx]
   exact qpy_ (hS.below hb) x hx
 ·refine ⟨enN,enN_ok,fun w' _=>?_⟩
  rw[decide_eq_false (fun h=>absurd (Int.lt_of_le_of_lt h.1 h.2) (Int.lt_irrefl _))]
  exact tat_nil x w'
end
def isIn (l:List Nat) (x:Int):Bool:=decide (0<=x) && decide (x.toNat ∈ l)
theorem qev_ (l:List Nat) (k:Nat):isIn l (k:Int)=decide (k ∈ l):=by simp[isIn]
def skp (r:Ru) (M:List Ent) (l:List Nat) (x:Int):Nat:=if 0<=x/\x<(M.length:Int) then spot (Hv r M) l x.toNat else l.length
theorem qdh_ {r:Ru} {M:List Ent} {l:List Nat} (h:InS r M l) {x:Int} (hx:isIn l x=true):0<=x/\x<(M.length:Int):=by
 unfold isIn at hx
 simp only[Bool.and_eq_true,decide_eq_true_eq] at hx
 have:=h.lt _ hx.2
 omega
section
variable {w:World} {F G:Nat->Prop} {s:Nat} {q:Option Addr} {r:Ru} {M:List Ent} {l:List Nat}
theorem qqg_ (hQ:TreeQ w F q r M) (hS:SetS w G s q l) (hI:InS r M l) (hM:M.length<=900) (x:Int) :
  Ca_ 38 #[.pointer (some ⟨s,0,none⟩),.int .i64 x] w (.tuple #[.int .i64 (skp r M l x:Int),.bool (isIn l x)]):=by
 obtain ⟨_,v,h1,h2,_⟩:=hS
 obtain ⟨a,c,rfl,hC⟩:=qaz_ h2
 have hf:=hI.few
 have ht:=Hv_tot r M
 by_cases hx:0<=x/\x<(M.length:Int)
 ·obtain ⟨n,rfl⟩:=Int.eq_ofNat_of_zero_le hx.1
  have hn:n<M.length:=by omega
  have ek:skp r M l (n:Int)=spot (Hv r M) l n:=by unfold skp;rw[if_pos hx,Int.toNat_natCast]
  rw[ek]
  have hsl:=Tp.qol_ (Hv r M) l n
  have hz:=qv_ l
  refine seek_w s q a (zs l) (zs l).length c (n:Int) (spot (Hv r M) l n) (fun i=>!(Hv r M (l.getD i 0) n)) rfl (by omega) (by omega) (h_ fun i hi=>?_) (h_ fun i hi hil=>?_) _ (h_ fun h=>?_) (fun h=>?_) w h1 hC (h_ fun w' i hi hb=>?_)
  ·have:=Tp.qeo_ (H:=Hv r M) (x:=n) (l:=l) (i:=i) (by omega) hi
   rw[List.getD_eq_getElem?_getD,List.getElem?_eq_getElem (by omega)]
   simp[this]
  ·have:=Tp.qfn_ ht hI.srt (x:=n) (i:=i) (by omega) hi
   rw[List.getD_eq_getElem?_getD,List.getElem?_eq_getElem (by omega)]
   simp[this]
  ·rw[qev_,zs_get]
   have hm:=Tp.qon_ ht hI.srt (x:=n)
   have hl:spot (Hv r M) l n<l.length:=by rw[<-hz];exact h
   rw[Bool.eq_iff_iff,beq_iff_eq,decide_eq_true_iff,hm]
   exact ⟨fun e=>⟨hl,by omega⟩,fun ⟨_,e⟩=>by omega⟩
  ·rw[qev_,decide_eq_false_iff_not,Tp.qon_ ht hI.srt]
   rintro ⟨hl,_⟩
   omega
  ·have hil:i<l.length:=by rw[<-hz];exact hi
   rw[zs_get,Bool.not_not,List.getD_eq_getElem?_getD,List.getElem?_eq_getElem hil]
   exact (hQ.below hb).heavier _ _ _ (HvI.place (hI.lt _ (List.getElem_mem hil)) hn)
 ·have ei:isIn l x=false:=by
   cases e:isIn l x with
   | false=>rfl
   | true=>exact absurd (qdh_ hI e) hx
  have ek:skp r M l x=l.length:=by unfold skp;rw[if_neg hx]
  rw[ei,ek]
  have hz:=qv_ l
  refine seek_w s q a (zs l) (zs l).length c x l.length (fun i=>false) rfl (by omega) (by omega) (h_ fun i hi=>rfl) (h_ fun i hi hil=>by omega) _ (h_ fun h=>by omega) (fun h=>rfl) w h1 hC (h_ fun w' i hi hb=>?_)
  have hil:i<l.length:=by rw[<-hz];exact hi
  have hlt:=hI.lt _ (List.getElem_mem hil)
  rw[zs_get]
  exact (hQ.below hb).heavier _ _ _ (.inr (.inl ⟨⟨by omega,by omega⟩,hx,rfl⟩))
def abv (r:Ru) (M:List Ent) (l:List Nat) (x:Int):Nat:=if 0<=x/\x<(M.length:Int) then Tp.keepN (Hv r M) l x.toNat else l.length
theorem qqh_ (H:Nat->Nat->Bool) (l:List Nat) (x:Nat):Tp.keepN H l x<=l.length:=(List.takeWhile_sublist _).length_le
theorem qds_ {H:Nat->Nat->Bool} {x:Nat}:∀ {l:List Nat} {i:Nat} (h:i<l.length),i<Tp.keepN H l x->H x l[i]=false
 | [],i,h,_=>by simp at h
 | a :: l,i,h,hi=>by
  cases e:H x a with
  | true=>simp[Tp.keepN,e] at hi
  | false=>
   cases i with
   | zero=>simpa using e
   | succ i=>
    simp[Tp.keepN,e] at hi
    simpa using qds_ (H:=H) (x:=x) (l:=l) (i:=i) (by simpa using h) hi
theorem qew_ {H:Nat->Nat->Bool} (t:Tot H) {x:Nat}:∀ {l:List Nat},Srt H l->∀ {i:Nat} (h:i<l.length),Tp.keepN H l x<=i->H x l[i]=true
 | [],_,i,h,_=>by simp at h
 | a :: l,hs,i,h,hi=>by
  have hc:=List.pairwise_cons.1 hs
  cases e:H x a with
  | true=>
   cases i with
   | zero=>simpa using e
   | succ i=>
    have:=hc.1 (l[i]'(by simpa using h)) (List.getElem_mem _)
    simpa using t.trans _ _ _ e this
  | false=>
   cases i with
   | zero=>simp[Tp.keepN,e] at hi
   | succ i=>
    simp[Tp.keepN,e] at hi
    simpa using qew_ t (x:=x) hc.2 (i:=i) (by simpa using h) hi
theorem abv_le {x:Int}:abv r M l x<=l.length:=by
 unfold abv;split
 ·exact qqh_ _ _ _
 ·exact Nat.le_refl _
theorem qqi_ (hQ:TreeQ w F q r M) (hS:SetS w G s q l) (hI:InS r M l) (hM:M.length<=900) (x:Int) :
  Ca_ 42 #[.pointer (some ⟨s,0,none⟩),.int .i64 x] w (.int .i64 (abv r M l x:Int)):=by
 obtain ⟨_,v,h1,h2,_⟩:=hS
 obtain ⟨a,c,rfl,hC⟩:=qaz_ h2
 have hf:=hI.few
 have ht:=Hv_tot r M
 have hz:=qv_ l
 by_cases hx:0<=x/\x<(M.length:Int)
 ·obtain ⟨n,rfl⟩:=Int.eq_ofNat_of_zero_le hx.1
  have hn:n<M.length:=by omega
  have ek:abv r M l (n:Int)=Tp.keepN (Hv r M) l n:=by unfold abv;rw[if_pos hx,Int.toNat_natCast]
  rw[ek]
  have hsl:=qqh_ (Hv r M) l n
  refine qvf_ s q a (zs l) (zs l).length c (n:Int) (Tp.keepN (Hv r M) l n) (fun i=>Hv r M n (l.getD i 0)) rfl (by omega) (by omega) (h_ fun i hi=>?_) (h_ fun i hi hil=>?_) w h1 hC (h_ fun w' i hi hb=>?_)
  ·have:=qds_ (H:=Hv r M) (x:=n) (l:=l) (i:=i) (by omega) hi
   rw[List.getD_eq_getElem?_getD,List.getElem?_eq_getElem (by omega)]
   exact this
  ·have:=qew_ ht (x:=n) hI.srt (i:=i) (by omega) hi
   rw[List.getD_eq_getElem?_getD,List.getElem?_eq_getElem (by omega)]
   exact this
  ·have hil:i<l.length:=by rw[<-hz];exact hi
   rw[zs_get,List.getD_eq_getElem?_getD,List.getElem?_eq_getElem hil]
   exact (hQ.below hb).heavier _ _ _ (HvI.place hn (hI.lt _ (List.getElem_mem hil)))
 ·have ek:abv r M l x=l.length:=by unfold abv;rw[if_neg hx]
  rw[ek]
  refine qvf_ s q a (zs l) (zs l).length c x l.length (fun i=>false) rfl (by omega) (by omega) (h_ fun i hi=>rfl) (h_ fun i hi hil=>by omega) w h1 hC (h_ fun w' i hi hb=>?_)
  exact (hQ.below hb).heavier _ _ _ (.inl ⟨hx,rfl⟩)
theorem has_is (hQ:TreeQ w F q r M) (hS:SetS w G s q l) (hI:InS r M l) (hM:M.length<=900) (x:Int):Ca_ 21 #[.pointer (some ⟨s,0,none⟩),.int .i64 x] w (.bool (isIn l x)) :=
 shas_w s _ x _ w (h_ (qqg_ hQ hS hI hM x))
theorem qvh_ (hS:SetS w G s q l):Ca_ 19 #[.pointer (some ⟨s,0,none⟩)] w (.int .i64 (l.length:Int)):=by
 obtain ⟨_,v,h1,h2,_⟩:=hS
 obtain ⟨a,c,rfl,hC⟩:=qaz_ h2
 rw[qv_] at h1
 exact slen_w s _ c q a w h1
def bestI:List Nat->Int
 | []=>-1
 | k :: _=>(k:Int)
theorem best_at (hS:SetS w G s q l):Ca_ 20 #[.pointer (some ⟨s,0,none⟩)] w (.int .i64 (bestI l)):=by
 cases l with
 | nil=>exact qtq_ _ w (h_ (qvh_ hS))
 | cons k l=>
  obtain ⟨_,v,h1,h2,_⟩:=hS
  obtain ⟨a,c,rfl,hC⟩:=qaz_ h2
  obtain ⟨g,rfl,hg⟩:=hC 0 (by rw[qv_];simp)
  exact qtp_ s _ c g q _ w h1 (by rw[qv_];simp) hg
theorem all_at (hS:SetS w G s q l) (hl:l.length<=1000):Calls Tryz.prog 18 #[.pointer (some ⟨s,0,none⟩)] w fun e w'=>∃ v',e = .returned v'/\RowI w' v' (zs l)/\(∀k,v'.ownBlock=some k->w.heap.size<=k)/\Below w.heap.size w w':=by
 obtain ⟨_,v,h1,h2,_⟩:=hS
 obtain ⟨a,c,e,_⟩:=qaz_ h2
 exact all_w s q v ⟨a,_,c,e⟩ (fun w w' v'=>RowI w' v' (zs l)/\(∀k,v'.ownBlock=some k->w.heap.size<=k)/\Below w.heap.size w w') w h1 (h_ (qyb_ h2 (by rw[qv_];exact hl)))
theorem qkq_ (q:Option Addr) (w:World):Calls Tryz.prog 10 #[.pointer q] w fun e w'=>∃ s,e = .returned (.pointer (some ⟨s,0,none⟩))/\w.heap.size<=s/\SetS w' (fun i=>i=s) s q []/\Below w.heap.size w w':=by
 refine (snew_w q w).mono ?_
 rintro e w' ⟨rfl,rfl⟩
 refine ⟨_,rfl,Nat.le_refl _,⟨fun i hi=>?_,.slice none 0 0,Has.new _ _,qvg_ _,rfl,fun i hi=>?_,fun i hi=>?_⟩,(Below.refl _ _).alloc (Nat.le_refl _) _⟩
 ·rw[hi];simp
 ·cases hi
 ·cases hi
end
end Go.Proofs.YtbgjiplfaolpjaaGreatDoor.An
namespace Go.Proofs.YtbgjiplfaolpjaaGreatDoor.An
open Go.RowKit Mem Sc
open Ar (Ent Ru entZ Ok isP)
open Tp (Tot Srt spot ins)
def putI (r:Ru) (M:List Ent) (l:List Nat) (x:Int):List Nat:=if isIn l x=true then l else if 0<=x/\x<(M.length:Int) then ins (Hv r M) l x.toNat else l
def dropI (r:Ru) (M:List Ent) (l:List Nat) (x:Int):List Nat:=if isIn l x=true then l.take (skp r M l x) ++ l.drop (skp r M l x+1) else l
section
variable {r:Ru} {M:List Ent} {l:List Nat}
theorem qqj_ (h:InS r M l) (x:Int):InS r M (putI r M l x):=by
 unfold putI
 by_cases h1:isIn l x=true
 ·rw[if_pos h1];exact h
 ·rw[if_neg h1]
  by_cases h2:0<=x/\x<(M.length:Int)
  ·rw[if_pos h2]
   have hx:x.toNat ∉ l:=fun hc=>h1 (by unfold isIn;simp[h2.1,hc])
   refine ⟨h.srt.ins (Hv_tot r M) hx,fun y hy=>?_⟩
   rcases Tp.qup_.1 hy with rfl|hy
   ·omega
   ·exact h.lt y hy
  ·rw[if_neg h2];exact h
theorem qqk_ (x:Int) (y:Nat):y ∈ putI r M l x ↔ y ∈ l\/(y:Int)=x/\y<M.length:=by
 unfold putI
 by_cases h1:isIn l x=true
 ·rw[if_pos h1]
  refine ⟨.inl,fun hy=>hy.elim id fun hy=>?_⟩
  rw[<-hy.1,qev_] at h1
  exact of_decide_eq_true h1
 ·rw[if_neg h1]
  by_cases h2:0<=x/\x<(M.length:Int)
  ·rw[if_pos h2,Tp.qup_]
   constructor
   ·rintro (hy|hy)
    ·exact .inr ⟨by omega,by omega⟩
    ·exact .inl hy
   ·rintro (hy|hy)
    ·exact .inr hy
    ·exact .inl (by omega)
  ·rw[if_neg h2]
   exact ⟨.inl,fun hy=>hy.elim id fun hy=>absurd (by omega) h2⟩
theorem qql_ (h:InS r M l) {x:Int} (hx:isIn l x=true):∃ hk:skp r M l x<l.length,l[skp r M l x]=x.toNat:=by
 have hp:=qdh_ h hx
 have hm:x.toNat ∈ l:=by
  unfold isIn at hx
  simp only[Bool.and_eq_true,decide_eq_true_eq] at hx
  exact hx.2
 have:=Tp.qdc_ (Hv_tot r M) h.srt hm
 unfold skp
 rw[if_pos hp]
 exact this
theorem qfs_ {x:Int} (hx:isIn l x=true):dropI r M l x=l.eraseIdx (skp r M l x):=by
 unfold dropI
 rw[if_pos hx,List.eraseIdx_eq_take_drop_succ]
theorem qjj_ (h:InS r M l) (x:Int):InS r M (dropI r M l x):=by
 by_cases h1:isIn l x=true
 ·obtain ⟨hk,_⟩:=qql_ h h1
  rw[qfs_ h1]
  exact ⟨(h.srt.without (Hv_tot r M) hk).1,fun y hy=>h.lt y (((h.srt.without (Hv_tot r M) hk).2 y).1 hy).1⟩
 ·unfold dropI;rw[if_neg h1];exact h
theorem qtt_ (h:InS r M l) (x:Int) (y:Nat):y ∈ dropI r M l x ↔ y ∈ l/\¬(y:Int)=x:=by
 by_cases h1:isIn l x=true
 ·obtain ⟨hk,he⟩:=qql_ h h1
  have hp:=qdh_ h h1
  rw[qfs_ h1,(h.srt.without (Hv_tot r M) hk).2 y,he]
  exact ⟨fun ⟨a,b⟩=>⟨a,fun e=>b (by omega)⟩,fun ⟨a,b⟩=>⟨a,fun e=>b (by omega)⟩⟩
 ·unfold dropI;rw[if_neg h1]
  refine ⟨fun hy=>⟨hy,fun e=>h1 ?_⟩,fun hy=>hy.1⟩
  rw[<-e,qev_]
  exact decide_eq_true hy
theorem qkr_ (f:List Nat->Int->List Nat) (hf:∀ l x,InS r M l->InS r M (f l x)):∀ (ps:List Int) (l:List Nat),InS r M l->InS r M (ps.foldl f l)
 | [],_,h=>h
 | x :: ps,l,h=>qkr_ f hf ps (f l x) (hf l x h)
end
section
variable {w:World} {F G:Nat->Prop} {s:Nat} {q:Option Addr} {r:Ru} {M:List Ent} {l:List Nat}
theorem qex_ {w w1 w2:World} (h:w1.heap.size<=w2.heap.size):∀ i,Nxt G w w1 i->Nxt G w w2 i:=fun _ hi=>hi.imp id fun hi=>⟨hi.1,by omega⟩
def StQ (w:World) (G:Nat->Prop) (s:Nat) (q:Option Addr) (r:Ru) (M:List Ent) (wr:World) (m:List Nat):Prop:=SetS wr (Nxt G w wr) s q m/\InS r M m/\Kp G w wr
theorem StQ.below {wr wr':World} {m:List Nat} (hG:∀ i,G i->i<w.heap.size) (h:StQ w G s q r M wr m) (hb:Below wr.heap.size wr wr'):StQ w G s q r M wr' m:=by
 obtain ⟨h1,h2,h3⟩:=h
 have hs:=hb.size
 have hs0:=h3.size
 refine ⟨(h1.below hb).wide (qex_ hs) fun i hi=>hi.elim (fun hi=>by have:=hG i hi;omega) (fun hi=>hi.2),h2,h3.trans (Kp.of (F:=fun _=>False) hb) fun _ hf _=>hf.elim⟩
theorem qvi_ (hG:∀ i,G i->i<w.heap.size) {w1 w2 w3:World} {m m':List Nat} {v v':Value} (h:StQ w G s q r M w1 m) (hv:Has w1 s (stA q v) 78) (hb:Below w1.heap.size w1 w2) (hP:InsP w2 w3 v (zs m') v') (hI:InS r M m'):Kept s (StQ w G s q r M) m' (.returned v') w3:=by
 obtain ⟨⟨h0,v0,h1,h2,h3,h4,h5⟩,_,hK⟩:=h
 obtain rfl:v0=v:=by
  have e:=(st1 h1).symm.trans (st1 hv)
  exact Option.some.inj e
 have hs2:=qd_ hb hv (Has.lt hv)
 have hl1:=Has.lt hv
 obtain ⟨hr,ho,hk⟩:=hP
 have hs3:=hk.has hs2 (fun e=>h5 s e rfl)
 obtain ⟨ad,c,rfl,_⟩:=qaz_ hr
 have hz12:=hb.size
 have hz23:=hk.size
 have hz01:=hK.size
 have ne:∀ i,(Value.slice ad (zs m').length c).ownBlock=some i->i ≠ s:=fun i hi=>ho.elim (fun e=>h5 i (by rw[<-e];exact hi)) (fun ⟨g,e,hg⟩=>by rw[hi] at e;cases e;omega)
 have hz34:(w3.setCell ⟨s,1,none⟩ (.slice ad (zs m').length c)).heap.size=w3.heap.size:=by simp[World.setCell]
 have k4:Kp (fun i=>i=s) w3 (w3.setCell ⟨s,1,none⟩ (.slice ad (zs m').length c)):=Kp.gb (qbw_ w3 s 1 _) (fun k hk=>(Option.some.inj hk).symm)
 refine ⟨ad,_,c,v0,rfl,st1 hs3,Has.free hs3 1,⟨fun i hi=>?_,_,st_set hs3 _,kp_row hr k4 ne,qex_ (by omega) s h3,fun i hi=>?_,ne⟩,hI,?_⟩
 ·exact hi.elim (fun hi=>by have:=hG i hi;omega) (fun hi=>hi.2)
 ·rcases ho with e|⟨g,e,hg⟩
  ·exact qex_ (by omega) i (h4 i (by rw[<-e];exact hi))
  ·rw[hi] at e
   cases e
   exact .inr ⟨by omega,by rw[hz34];exact (row_lt hr hi).1⟩
 ·refine ((hK.trans (Kp.of (F:=fun _=>False) hb) (fun _ hf _=>hf.elim)).trans hk fun i hi hlt=>?_).trans k4 fun i hi hlt=>?_
  ·exact (h4 i hi).elim id fun hh=>by omega
  ·subst hi
   exact h3.elim id fun hh=>by omega
theorem qey_ (hS:SetS w G s q l):∃ ad c,Has w s (stA q (.slice ad l.length c)) 78/\RowI w (.slice ad l.length c) (zs l):=by
 obtain ⟨_,v,h1,h2,_⟩:=hS
 obtain ⟨a,c,rfl,_⟩:=qaz_ h2
 rw[qv_] at h1 h2
 exact ⟨a,c,h1,h2⟩
theorem set_own (hS:SetS w G s q l) {v:Value} (hv:Has w s (stA q v) 78):∀ i,v.ownBlock=some i->i<w.heap.size:=by
 obtain ⟨h0,v0,h1,h2,_,h4,_⟩:=hS
 obtain rfl:v0=v:=Option.some.inj ((st1 h1).symm.trans (st1 hv))
 exact fun i hi=>h0 i (h4 i hi)
def OutI (w:World) (G:Nat->Prop) (a:Option Addr) (ps:List Int):Prop:=0<ps.length->∃ ab ao,a=some ⟨ab,ao,none⟩/\ab<w.heap.size/\¬G ab/\∀ i (hi:i<ps.length),w.cell? ⟨ab,ao+i,none⟩=some (.int .i64 ps[i])
theorem OutI.below {w w':World} {a:Option Addr} {ps:List Int} {G:Nat->Prop} (h:OutI w (fun _=>False) a ps) (hb:Below w.heap.size w w') (hG:∀ i,G i->w.heap.size<=i):OutI w' G a ps:=fun h0=>by
 obtain ⟨ab,ao,e,hlt,_,hc⟩:=h h0
 exact ⟨ab,ao,e,Nat.lt_of_lt_of_le hlt hb.size,fun hg=>absurd (hG ab hg) (by omega),fun i hi=>(hb.cell (p:=⟨ab,ao+i,none⟩) hlt).trans (hc i hi)⟩
theorem qvj_ (l:List Nat) (k:Nat):(zs l).take k=zs (l.take k):=by simp[zs]
theorem qvk_ (l:List Nat) (k:Nat):(zs l).drop k=zs (l.drop k):=by simp[zs]
theorem zs_app (a b:List Nat):zs (a ++ b)=zs a ++ zs b:=by simp[zs]
theorem put_at (hQ:TreeQ w F q r M) (hS:SetS w G s q l) (hFG:∀ i,F i->¬G i) (hI:InS r M l) (hM:M.length<=900) (a:Option Addr) (n c:Nat) (ps:List Int) (hn:n=ps.length) (hn2:n<=1000) (hA:OutI w G a ps) :
  Calls Tryz.prog 13 #[.pointer (some ⟨s,0,none⟩),.slice a n c] w fun e w'=>e = .returned (.int .i64 (((ps.foldl (putI r M) l).length:Int) - (l.length:Int)))/\StQ w G s q r M w' (ps.foldl (putI r M) l):=by
 have hG:=hS.1
 refine put_w s a n c ps (h_ hn) hn2 (StQ w G s q r M) (putI r M) l w (h_ ⟨hS.wide (fun i hi=>.inl hi) (fun i hi=>hi.elim (hG i) (fun hi=>hi.2)),hI,Kp.refl _ _⟩) (h_ fun wr wr' m h hb=>h.below hG hb) (h_ fun wr m h=>?_) (h_ fun wr m h hn0=>?_) (h_ fun wr m x h=>?_)
 ·obtain ⟨ad,c,h1,_⟩:=qey_ h.1
  exact ⟨by have:=h.2.1.few;omega,ad,c,st1 h1⟩
 ·obtain ⟨ab,ao,e,hlt,hng,hc⟩:=hA (by omega)
  exact ⟨ab,ao,e,fun i hi=>(World.cell?_of_block (h.2.2.block ab hlt hng)).trans (hc i hi)⟩
 ·have hQ':=hQ.on h.2.2 hFG
  obtain ⟨e,he,hat⟩:=hQ'.at x
  refine ⟨skp r M m x,isIn m x,decide (0<=x/\x<(M.length:Int)),fun w' hb=>qqg_ (hQ'.below hb) (h.1.below hb) h.2.1 hM x,fun w' hb=>?_,fun hh=>?_,fun h1 h2 w' hb=>?_⟩
  ·obtain ⟨ad,c,h1,_⟩:=qey_ (h.1.below hb)
   exact may_w s q _ x e he _ w' h1 (h_ fun w'' hb'=>hat w'' (tb_ hb hb'))
  ·unfold putI
   rcases hh with hh|hh
   ·rw[if_pos hh]
   ·by_cases h1:isIn m x=true
    ·rw[if_pos h1]
    ·rw[if_neg h1,if_neg (of_decide_eq_false hh)]
  ·have h':=h.below hG hb
   obtain ⟨ad,c,g1,g2⟩:=qey_ h'.1
   have h2':=of_decide_eq_true h2
   refine ⟨ad,c,st1 g1,fun w2 vb hb2 hvb hx=>?_⟩
   have ek:skp r M m x=spot (Hv r M) m x.toNat:=by unfold skp;rw[if_pos h2']
   have hle:=Tp.qol_ (Hv r M) m x.toNat
   have g3:RowI w2 (.slice ad m.length c) (zs m):=kp_row g2 (Kp.of (F:=fun _=>False) hb2) (fun _ _ h=>h)
   have hf:=h.2.1.few
   have hz:=qv_ m
   refine (qss_ g3 (skp r M m x) (by rw[hz,ek];exact hle) (by omega) vb x hx (fun k hk=>by have:=set_own h'.1 g1 k hk;omega)).mono ?_
   rintro e w3 ⟨v',rfl,hP⟩
   refine qvi_ hG h' g1 hb2 ?_ (qqj_ h.2.1 x)
   have ep:zs (putI r M m x)=(zs m).take (skp r M m x) ++ x :: (zs m).drop (skp r M m x):=by
    unfold putI
    rw[if_neg (by rw[h1];simp),if_pos h2',ek,qvj_,qvk_]
    unfold ins
    rw[zs_app]
    congr 1
    show ((x.toNat:Nat):Int) :: _=_
    rw[Int.toNat_of_nonneg h2'.1]
    rfl
   rw[ep]
   exact hP
theorem drop_at (hQ:TreeQ w F q r M) (hS:SetS w G s q l) (hFG:∀ i,F i->¬G i) (hI:InS r M l) (hM:M.length<=900) (a:Option Addr) (n c:Nat) (ps:List Int) (hn:n=ps.length) (hn2:n<=1000) (hA:OutI w G a ps) :
  Calls Tryz.prog 14 #[.pointer (some ⟨s,0,none⟩),.slice a n c] w fun e w'=>e = .returned (.int .i64 ((l.length:Int) - ((ps.foldl (dropI r M) l).length:Int)))/\StQ w G s q r M w' (ps.foldl (dropI r M) l):=by
 have hG:=hS.1
 refine drop_w s a n c ps (h_ hn) hn2 (StQ w G s q r M) (dropI r M) l w (h_ ⟨hS.wide (fun i hi=>.inl hi) (fun i hi=>hi.elim (hG i) (fun hi=>hi.2)),hI,Kp.refl _ _⟩) (h_ fun wr wr' m h hb=>h.below hG hb) (h_ fun wr m h=>?_) (h_ fun wr m h hn0=>?_) (h_ fun wr m x h=>?_)
 ·obtain ⟨ad,c,h1,_⟩:=qey_ h.1
  exact ⟨by have:=h.2.1.few;omega,ad,c,st1 h1⟩
 ·obtain ⟨ab,ao,e,hlt,hng,hc⟩:=hA (by omega)
  exact ⟨ab,ao,e,fun i hi=>(World.cell?_of_block (h.2.2.block ab hlt hng)).trans (hc i hi)⟩
 ·have hQ':=hQ.on h.2.2 hFG
  have hf:=h.2.1.few
  have hle:skp r M m x<=m.length:=by
   unfold skp;split
   ·exact Tp.qol_ _ _ _
   ·exact Nat.le_refl _
  refine ⟨skp r M m x,isIn m x,by omega,fun w' hb=>qqg_ (hQ'.below hb) (h.1.below hb) h.2.1 hM x,fun hh=>?_,fun h1 w' hb=>?_⟩
  ·unfold dropI
   rw[if_neg (by rw[hh];simp)]
  ·have h':=h.below hG hb
   obtain ⟨ad,c,g1,g2⟩:=qey_ h'.1
   obtain ⟨hk,_⟩:=qql_ h.2.1 h1
   have hz:=qv_ m
   refine ⟨ad,c,st1 g1,fun z hz1=>?_⟩
   refine (qst_ g2 (skp r M m x) (by rw[hz];exact hk) z hz1).mono ?_
   rintro e w3 ⟨v',rfl,hP⟩
   refine qvi_ hG h' g1 (Below.refl _ _) ?_ (qjj_ h.2.1 x)
   have ep:zs (dropI r M m x)=(zs m).take (skp r M m x) ++ (zs m).drop (skp r M m x+1):=by
    unfold dropI
    rw[if_pos h1,zs_app,qvj_,qvk_]
   rw[ep]
   exact hP
theorem qvl_ (a:Option Addr) (n c k:Nat) (hk:k<=n) (hc:n<=c) (hn:a=none->n=0/\c=0) (hp:∀ x,a=some x->∃ g,x=⟨g,0,none⟩) (w:World):(Instr.sliceAt 49 (.slice a n c) none (some (.int .i64 (k:Int))) none).run Tryz.prog w = .ok (.slice a k c) w:=by
 cases a with
 | none=>
  obtain ⟨rfl,rfl⟩:=hn rfl
  obtain rfl:k=0:=by omega
  kernel_rfl
 | some x=>
  obtain ⟨g,rfl⟩:=hp x rfl
  go_simp
  intro h
  omega
theorem trim_at (hQ:TreeQ w F q r M) (hS:SetS w G s q l) (hI:InS r M l) (hM:M.length<=900) (x:Int) :
  Calls Tryz.prog 15 #[.pointer (some ⟨s,0,none⟩),.int .i64 x] w fun e w'=>e = .returned (.int .i64 ((l.length:Int) - (abv r M l x:Int)))/\StQ w G s q r M w' (l.take (abv r M l x)):=by
 have hf:=hI.few
 have hle:=abv_le (r:=r) (M:=M) (l:=l) (x:=x)
 obtain ⟨h0,v,h1,h2,h3,h4,h5⟩:=hS
 have hS':SetS w G s q l:=⟨h0,v,h1,h2,h3,h4,h5⟩
 have hI':InS r M (l.take (abv r M l x)):=⟨hI.srt.sub (List.take_sublist _ _),fun y hy=>hI.lt y (List.mem_of_mem_take hy)⟩
 have hz:=qv_ l
 rcases qdf_ h2 with ⟨rfl,hl0⟩|⟨g,c,S,rfl,hg,hc,hm⟩
 ·have hl:l=[]:=List.map_eq_nil_iff.1 hl0
  subst hl
  refine (trim_w s q none none 0 0 0 (by decide) (Nat.le_refl _) x w h1 (h_ fun w' hb=>?_) (h_ fun w'=>qvl_ none 0 0 0 (Nat.le_refl _) (Nat.le_refl _) (fun _=>⟨rfl,rfl⟩) (fun _ h=>by cases h) w')).mono ?_
  ·have:=qqi_ (hQ.below hb) (hS'.below hb) hI hM x
   have e:abv r M [] x=0:=by have:=abv_le (r:=r) (M:=M) (l:=[]) (x:=x);simpa using this
   rwa [e] at this
  ·rintro e w' ⟨rfl,hs',hk⟩
   have e0:abv r M [] x=0:=by have:=abv_le (r:=r) (M:=M) (l:=[]) (x:=x);simpa using this
   refine ⟨by rw[e0];rfl,⟨fun i hi=>hi.elim (fun hi=>Nat.lt_of_lt_of_le (h0 i hi) hk.size) (fun hi=>hi.2),_,hs',by rw[List.take_nil];exact qvg_ _,.inl h3,fun i hi=>(by cases hi),fun i hi=>(by cases hi)⟩,hI',hk.mono fun i hi _=>hi ▸ h3⟩
 ·rw[hz] at h1
  refine (trim_w s q (some ⟨g,0,none⟩) (some ⟨g,0,none⟩) l.length c (abv r M l x) (by omega) hle x w h1 (h_ fun w' hb=>qqi_ (hQ.below hb) (hS'.below hb) hI hM x) (h_ fun w'=>qvl_ _ _ _ _ hle (by omega) (fun h=>by cases h) (fun y h=>⟨g,(Option.some.inj h).symm⟩) w')).mono ?_
  rintro e w' ⟨rfl,hs',hk⟩
  have hgs:g ≠ s:=h5 g rfl
  have hg':Has w' g ((zs l).map (Value.int .i64) ++ S).toArray 3:=hk.has hg hgs
  refine ⟨rfl,⟨fun i hi=>hi.elim (fun hi=>Nat.lt_of_lt_of_le (h0 i hi) hk.size) (fun hi=>hi.2),_,hs',qcx_ (S:=(zs (l.drop (abv r M l x))).map (Value.int .i64) ++ S) ?_ ?_ hm ?_,.inl h3,fun i hi=>.inl (h4 i hi),fun i hi=>h5 i hi⟩,hI',hk.mono fun i hi _=>hi ▸ h3⟩
  ·have e:(zs l).map (Value.int .i64)=(zs (l.take (abv r M l x))).map (Value.int .i64) ++ (zs (l.drop (abv r M l x))).map (Value.int .i64):=by rw[<-List.map_append,<-zs_app,List.take_append_drop]
   rw[e,List.append_assoc] at hg'
   exact hg'
  ·rw[List.length_append,List.length_map,qv_,qv_,List.length_take,List.length_drop];omega
  ·rw[qv_,List.length_take];omega
end
end Go.Proofs.YtbgjiplfaolpjaaGreatDoor.An
namespace Go.Proofs.YtbgjiplfaolpjaaGreatDoor.An
open Go.RowKit Mem Sc
open Ar (Ent Ru entZ Ok isP)
set_option maxRecDepth 100000
theorem qqm_ (r:Ru) (M:List Ent) (h:Hd) (now:Int):(Ar.add r M h now).2.length<=M.length+1:=by
 unfold Ar.add
 repeat' split
 all_goals simp
theorem qmi_ (w:World) (x y z:Int):(Instr.buildSlice 49 3 #[(0,.int .i64 x),(1,.int .i64 y),(2,.int .i64 z)]).run Tryz.prog w = .ok (.slice (some ⟨w.heap.size,0,none⟩) 3 3) (w.alloc (.cells #[.int .i64 x,.int .i64 y,.int .i64 z] 3)):=by kernel_rfl
theorem qzg_ (r:Ru):[0,0,1].foldl (putI r [entZ]) []=[0]:=by
 have e1:putI r [entZ] [] 0=[0]:=by simp[putI,isIn,Tp.ins,Tp.spot]
 have e2:putI r [entZ] [0] 0=[0]:=by simp[putI,isIn]
 have e3:putI r [entZ] [0] 1=[0]:=by simp[putI,isIn]
 simp only[List.foldl_cons,List.foldl_nil,e1,e2,e3]
theorem qtu_ (w:World) (S0:World->Nat->Prop) (S1:World->Nat->Prop)
  (KN:Hid (Calls Tryz.prog 8 #[.agg (NN.prA NN.prL),.int .i64 5] w fun r w'=>∃ b,r = .returned (.tuple #[.pointer (some ⟨b,0,none⟩),.int .i64 0])/\(Calls Tryz.prog 10 #[.pointer (some ⟨b,0,none⟩)] w' fun e w''=>∃ s,e = .returned (.pointer (some ⟨s,0,none⟩))/\S0 w'' s)))
  (KP:Hid (∀wr s,S0 wr s->Calls Tryz.prog 13 #[.pointer (some ⟨s,0,none⟩),.slice (some ⟨wr.heap.size,0,none⟩) 3 3] (wr.alloc (.cells #[.int .i64 0,.int .i64 0,.int .i64 1] 3)) fun e w'=>e = .returned (.int .i64 1)/\S1 w' s))
  (KB:Hid (∀wr s,S1 wr s->Calls Tryz.prog 20 #[.pointer (some ⟨s,0,none⟩)] wr fun e w'=>e = .returned (.int .i64 0)/\S1 w' s))
  (KL:Hid (∀wr s,S1 wr s->Calls Tryz.prog 19 #[.pointer (some ⟨s,0,none⟩)] wr fun e w'=>e = .returned (.int .i64 1)/\S1 w' s))
  (HB:Hid (∀wr s,S1 wr s->Below w.heap.size w wr)) :
  Ca_ 6 #[] w (.bool true):=by
 go_enter Tryz.func6,Tryz.ntmps6
 go_wp2_with (with_reducible refine qtm_ rfl rfl ?_)
 refine KN.out.mono ?_
 rintro e v1 ⟨b,rfl,K1⟩
 have H1:=h_ K1
 clear K1
 go_wp2_with fail
 refine H1.out.mono ?_
 rintro e v2 ⟨s,rfl,hs⟩
 have KP2:=h_ (KP.out v2 s hs)
 clear hs H1
 have hmk:=fun w=>qmi_ w 0 0 1
 go_wp2_with fail
 refine KP2.out.mono ?_
 rintro e v3 ⟨rfl,hs⟩
 have K3:=h_ (KB.out v3 s hs)
 clear hs KP2 hmk
 go_wp2_with fail
 refine K3.out.mono ?_
 rintro e v4 ⟨rfl,hs⟩
 have K4:=h_ (KL.out v4 s hs)
 clear hs K3
 go_wp2_with fail
 refine K4.out.mono ?_
 rintro e v5 ⟨rfl,hs⟩
 have hB:=HB.out v5 s hs
 clear hs K4
 go_wp2_with fail
 go_ret
 exact ⟨rfl,hB⟩
theorem alive15 (w:World) (hT:Tab w):Ca_ 6 #[] w (.bool true):=by
 have hG0:∀ {wr:World} {G:Nat->Prop} {s:Nat} {q:Option Addr} {r:Ru} {M:List Ent} {w1:World} {m:List Nat},StQ wr G s q r M w1 m->∃ G',SetS w1 G' s q m/\∀ i,G' i->G i\/wr.heap.size<=i:=fun h=>⟨_,h.1,fun i hi=>hi.imp id fun hi=>hi.1⟩
 refine qtu_ w (fun wr s=>∃ b F,TrS wr F b ⟨NN.prL,tlN.g,[],[],clampR 5⟩ [entZ] [-1]/\SetS wr (fun i=>i=s) s (some ⟨b,0,none⟩) []/\(∀i,F i->i ≠ s)/\w.heap.size<=s/\Below w.heap.size w wr) (fun wr s=>∃ G q,SetS wr G s q [0]/\Below w.heap.size w wr) ?_ (h_ fun wr s ⟨b,F,h1,h2,h3,h4,h5⟩=>?_) (h_ fun wr s ⟨G,q,h1,h2⟩=>?_) (h_ fun wr s ⟨G,q,h1,h2⟩=>?_) (h_ fun wr s ⟨G,q,_,h2⟩=>h2)
 ·refine h_ ((qqe_ NN.prL (NN.tlZ_ok _ _ _ _ _) (NN.tlZ_one _ _ _ _ _) tlN tlN_is tlN_ok [] [] rfl rfl (Nat.zero_le _) (Nat.zero_le _) 5 (by decide +kernel) w hT (fun h=>by simp at h) (fun h=>by simp at h)).mono ?_)
  rintro r w' ⟨b,F,rfl,hA,_,hb⟩
  refine ⟨b,rfl,(qkq_ (some ⟨b,0,none⟩) w').mono ?_⟩
  rintro e w'' ⟨s,rfl,hs,hS,hb'⟩
  exact ⟨s,rfl,b,F,hA.below hb',hS,fun i hi e=>by have:=hA.1 i hi;omega,by have:=hb.size;omega,tb_ hb hb'⟩
 ·have hb:Below wr.heap.size wr (wr.alloc (.cells #[.int .i64 0,.int .i64 0,.int .i64 1] 3)):=(Below.refl _ _).alloc (Nat.le_refl _) _
  have hx:Has (wr.alloc (.cells #[.int .i64 0,.int .i64 0,.int .i64 1] 3)) wr.heap.size #[.int .i64 0,.int .i64 0,.int .i64 1] 3:=Has.new _ _
  have hsl:=h2.1 s rfl
  refine (put_at (F:=F) (M:=[entZ]) (.inl ⟨b,[-1],rfl,h1.below hb⟩) (h2.below hb) h3 (InS.nil _ _) (by decide) (some ⟨wr.heap.size,0,none⟩) 3 3 [0,0,1] rfl (by decide) (fun _=>⟨wr.heap.size,0,rfl,hx.lt,by omega,fun i hi=>?_⟩)).mono ?_
  ·rw[Nat.zero_add,hx.cell i]
   have hi3:i<3:=hi
   obtain rfl|rfl|rfl:i=0\/i=1\/i=2:=by omega
   ·rfl
   ·rfl
   ·rfl
  ·rintro e w' ⟨rfl,hQ⟩
   rw[qzg_] at hQ |-
   have hs5:=h5.size
   exact ⟨rfl,_,_,hQ.1,(h5.trans (hb.mono hs5)).trans (hQ.2.2.below (fun i hi=>by omega) (Nat.le_trans hs5 hb.size))⟩
 ·refine (best_at h1).mono ?_
  rintro e w' ⟨rfl,hb⟩
  exact ⟨rfl,G,q,h1.below hb,tb_ h2 hb⟩
 ·refine (qvh_ h1).mono ?_
  rintro e w' ⟨rfl,hb⟩
  exact ⟨rfl,G,q,h1.below hb,tb_ h2 hb⟩
end Go.Proofs.YtbgjiplfaolpjaaGreatDoor.An
namespace Go.Proofs.YtbgjiplfaolpjaaGreatDoor.An
open Go.RowKit Mem Sc
open Ar (Ent Ru entZ Ok isP)
set_option maxRecDepth 100000
theorem qtv_ {r:Ru} {M:List Ent} {l:List Nat} (h:InS r M l) {z:Int} (hz:isIn (l.take (abv r M l z)) z=true):0<abv r M l z/\∃ y:Nat,l[abv r M l z - 1]?=some y/\(y:Int)=z:=by
 have hp:isIn l z=true:=by
  unfold isIn at hz |-
  simp only[Bool.and_eq_true,decide_eq_true_eq] at hz |-
  exact ⟨hz.1,List.mem_of_mem_take hz.2⟩
 have hpl:=qdh_ h hp
 have hm:z.toNat ∈ l:=by
  unfold isIn at hp
  simp only[Bool.and_eq_true,decide_eq_true_eq] at hp
  exact hp.2
 obtain ⟨hk,he⟩:=Tp.qdc_ (Hv_tot r M) h.srt hm
 have e:abv r M l z=Tp.spot (Hv r M) l z.toNat+1:=by
  unfold abv
  rw[if_pos hpl,Tp.qlo_ (Hv_tot r M) h.srt hm]
 have e2:abv r M l z - 1=Tp.spot (Hv r M) l z.toNat:=by omega
 exact ⟨by omega,z.toNat,by rw[e2,List.getElem?_eq_getElem hk,he],by omega⟩
theorem qqn_ {r:Ru} {M:List Ent} {l:List Nat} (h:InS r M l) (z:Int) {k:Nat} (hk:k<abv r M l z):∃ hl:k<l.length,HvI r M z ((l[k]:Nat):Int) false:=by
 have hle:=abv_le (r:=r) (M:=M) (l:=l) (x:=z)
 have hl:k<l.length:=by omega
 refine ⟨hl,?_⟩
 by_cases hp:0<=z/\z<(M.length:Int)
 ·unfold abv at hk
  rw[if_pos hp] at hk
  have:=qds_ hl hk
  rw[<-this]
  obtain ⟨n,rfl⟩:=Int.eq_ofNat_of_zero_le hp.1
  rw[Int.toNat_natCast]
  exact HvI.place (by omega) (h.lt _ (List.getElem_mem hl))
 ·exact .inl ⟨hp,rfl⟩
set_option maxHeartbeats 8000000 in
theorem grp2_:(∀(p:NN.Pr) (_hp:p.ok) (a:Option Addr) (n c:Nat) (w:World) (pa:Option Addr) (pn pc:Nat) (z:Int) (_KA:HK_ w 6 #[] (.bool true)) (_KG:HK_ w 7 #[.agg (NN.prA p),.slice a n c] (.bool true)),Ca_ 4 #[.agg (NN.prA p),.slice a n c,.slice pa pn pc,.int .i64 z] w (.bool true))/\
  (∀(p:NN.Pr) (_hp:p.ok) (a:Option Addr) (n c:Nat) (w:World) (pa:Option Addr) (pn pc:Nat) (z:Int) (_hlong:decide ((20:Int)<(pn:Int))=true) (_KA:HK_ w 6 #[] (.bool true)) (_KG:HK_ w 7 #[.agg (NN.prA p),.slice a n c] (.bool false)),Ca_ 4 #[.agg (NN.prA p),.slice a n c,.slice pa pn pc,.int .i64 z] w (.bool true)):=by
 refine ⟨fun p hp a n c w pa pn pc z KA KG=>?_,
  fun p hp a n c w pa pn pc z hlong KA KG=>?_⟩
 all_goals
  have hz:=NN.qam_ hp
  go_enter Tryz.func4,Tryz.ntmps4
  go_upto_region 1 with fail
  generalize hw0:World.alloc _ _=v0
  have hB:Below w.heap.size w v0:=bl_ hw0
  have hP:NN.PrAt v0 w.heap.size p:=by rw[<-hw0];exact NN.Has.new _ _
  clear hw0
  obtain ⟨bP,hbP⟩:∃ x,x=w.heap.size:=⟨_,rfl⟩
  rw[<-hbP] at hP |-
  have HBP:Hid (bP=w.heap.size):=h_ hbP
  clear hbP
  go_wp2_with (first|fail)
  refine (KA.out _ hB).mono ?_
  rintro e v1 ⟨rfl,hb⟩
  replace hP:=hP.on hb
  replace hB:=tb_ hB hb
  clear hb
  go_wp2_with (with_reducible first|refine NN.qs_ rfl _ rfl _ rfl hP hz ?_|refine NN.qp_ (by with_unfolding_all rfl) _ rfl _ rfl hP hz ?_)
  refine (KG.out _ hB).mono ?_
  rintro e v2 ⟨rfl,hb⟩
  replace hP:=hP.on hb
  replace hB:=tb_ hB hb
  clear hb
  go_wp2_with fail
  go_ret
  exact ⟨rfl,hB⟩
set_option maxHeartbeats 8000000 in
theorem qtw_ (p:NN.Pr) (hp:p.ok) (r:Ru) (a:Option Addr) (n c:Nat) (w:World) (pa:Option Addr) (pn pc:Nat) (z:Int) (ps:List Int) (HP:Hid (pn=ps.length)) (hp20:pn<=20) (hlong:decide ((20:Int)<(pn:Int))=false) (HO:Hid (∀w',Below w.heap.size w w'->∀ G:Nat->Prop,(∀i,G i->w.heap.size<=i)->OutI w' G pa ps)) (ls:List Ac) (HA:Hid (∀w',Below w.heap.size w w'->ActsAt w' a ls)) (HN:Hid (n=ls.length)) (hn40:n<=40) (HT:Hid (∀w',Below w.heap.size w w'->Tab w')) (HG:Hid (r.gs.length<=1000/\r.cs.length<=1000/\2<=r.p.ivl)) (KA:HK_ w 6 #[] (.bool true)) (KG:HK_ w 7 #[.agg (NN.prA p),.slice a n c] (.bool false)) (KN:Hid (∀w',Below w.heap.size w w'->Calls Tryz.prog 8 #[.agg (NN.prA p),.int .i64 100] w' fun e w''=>∃ b F,e = .returned (.tuple #[.pointer (some ⟨b,0,none⟩),.int .i64 0])/\TrS w'' F b r [entZ] [-1]/\(∀i,F i->w'.heap.size<=i)/\Below w'.heap.size w' w'')) :
  Ca_ 4 #[.agg (NN.prA p),.slice a n c,.slice pa pn pc,.int .i64 z] w (.bool true):=by
 have hz:=NN.qam_ hp
 go_enter Tryz.func4,Tryz.ntmps4
 go_upto_region 1 with fail
 generalize hw0:World.alloc _ _=v0
 have hB:Below w.heap.size w v0:=bl_ hw0
 have hP:NN.PrAt v0 w.heap.size p:=by rw[<-hw0];exact NN.Has.new _ _
 clear hw0
 obtain ⟨bP,hbP⟩:∃ x,x=w.heap.size:=⟨_,rfl⟩
 rw[<-hbP] at hP |-
 have HBP:Hid (bP=w.heap.size):=h_ hbP
 clear hbP
 go_wp2_with (first|fail)
 refine (KA.out _ hB).mono ?_
 rintro e v1 ⟨rfl,hb⟩
 replace hP:=hP.on hb
 replace hB:=tb_ hB hb
 clear hb
 go_wp2_with (with_reducible first|refine NN.qs_ rfl _ rfl _ rfl hP hz ?_|refine NN.qp_ (by with_unfolding_all rfl) _ rfl _ rfl hP hz ?_)
 refine (KG.out _ hB).mono ?_
 rintro e v2 ⟨rfl,hb⟩
 replace hP:=hP.on hb
 replace hB:=tb_ hB hb
 clear hb
 go_wp2_with (first|fail|(with_reducible refine NN.qs_ rfl _ rfl _ rfl hP hz ?_))
 refine (KN.out _ hB).mono ?_
 rintro e v3 ⟨bt,F,rfl,hS,hF,hb⟩
 have HF0:Hid (∀i,F i->w.heap.size<=i):=h_ fun i hi=>Nat.le_trans hB.size (hF i hi)
 replace hB:=tb_ hB hb
 clear hb hF hP
 go_wp2_with fail
 go_loopw [35] (fun i wr=>∃ k:Nat,k<=n/\i = .int .i64 (k:Int)/\∃ Fa M lp,TrS wr Fa bt r M lp/\Hid (Ok r M/\M.length<=k+1/\lp.length=M.length/\∀ i,Fa i->w.heap.size<=i)/\Below w.heap.size w wr) (fun i _=>n - (intOf i).toNat)
 case atStart=>exact ⟨0,by omega,rfl,F,[entZ],[-1],hS,h_ ⟨Ok.one r,Nat.le_refl _,rfl,HF0.out⟩,hB⟩
 case round=>
  clear hS hB HF0 F
  obtain ⟨k,hk,rfl,Fa,M,lp,hS,HM,hB⟩:=hrel
  by_cases hlt:k<n
  ·obtain ⟨ab,ao,hae,habl,hc⟩:=(HA.out _ hB) (by rw[<-HN.out];omega)
   subst hae
   have hk2:k<ls.length:=by rw[<-HN.out];exact hlt
   obtain ⟨q0,q1⟩:=hc k hk2
   clear hc
   generalize ls[k]=y at *
   clear hk2
   have z1:=qdg_ q0
   have z2:=qdr_ q0
   have z0:=qdr_ (c:=acZ) hdZ_ok
   have zy:=qj_ q0
   have hb2:Below wr.heap.size wr ((wr.alloc (.cells Tryz.zeroCells46 46)).setRow wr.heap.size (acA y)):=below_setRow ((Below.refl _ _).alloc (Nat.le_refl _) _) (Nat.le_refl _) _
   have hY:=qqb_ wr y
   have hnew:=qkp_ wr
   have hB2:=tb_ hB hb2
   have hS2:=hS.below hb2
   have hT2:=HT.out _ hB2
   have cn:=hY.now q0
   have rh:=hY.head
   have KAdd:=h_ (qve_ hS2 HM.out.1 (by have:=HM.out.2.1;omega) HM.out.2.2.1 HG.out.1 HG.out.2.1 hT2 y.h q0 y.now)
   clear hS hS2 hB hT2
   go_wp2_with (with_reducible first|refine qcn_ rfl _ rfl ab (ao+k*71) rfl y q1 z1 ?_|refine qgl_ rfl _ _ rfl _ _ y rfl rfl rfl z2 hnew z0 ?_|refine qdj_ rfl _ rfl _ 1 rfl y.h rh zy ?_)
   refine KAdd.out.mono ?_
   rintro e v6 ⟨rfl,⟨lp2,hlp2,hS6⟩,hK6⟩
   generalize World.setRow _ _ _=v5 at *
   have hB6:=hB2.trans (hK6.below HM.out.2.2.2 hB2.size)
   have HFa6:Hid (∀i,Nxt Fa v5 v6 i->w.heap.size<=i):=h_ fun i hi=>hi.elim (HM.out.2.2.2 i) (fun h=>Nat.le_trans hB2.size h.1)
   have hOk:=HM.out.1.add q0 y.now
   have hlen:=qqm_ r M y.h y.now
   have HM7:Hid (Ok r (Ar.add r M y.h y.now).2/\(Ar.add r M y.h y.now).2.length<=k+1+1/\lp2.length=(Ar.add r M y.h y.now).2.length/\∀ i,Nxt Fa v5 v6 i->w.heap.size<=i):=h_ ⟨hOk,by have:=HM.out.2.1;omega,hlp2,HFa6.out⟩
   clear hK6 hB2 KAdd hb2 HM hY cn rh hlp2 hOk hlen HFa6 hnew
   generalize (Ar.add r M y.h y.now).2=M' at *
   generalize (Ar.add r M y.h y.now).1=res at *
   generalize Nxt Fa v5 v6=Fa' at *
   go_wp2_with fail
   go_roundw
   case rel=>exact ⟨k+1,by omega,by go_num,Fa',M',lp2,hS6,HM7,hB6⟩
   case measure=>simp[intOf];omega
  ·obtain rfl:k=n:=by omega
   have hM9:M.length<=900:=by have:=HM.out.2.1;omega
   have HS:=h_ hS
   have HB0:=h_ hB
   clear hS
   go_wp2_with fail
   refine (qkq_ (some ⟨bt,0,none⟩) _).mono ?_
   rintro e v10 ⟨s,rfl,hs,hT,hb⟩
   have hS10:=HS.out.below hb
   replace hB:=tb_ hB hb
   have hws:w.heap.size<=s:=Nat.le_trans HB0.out.size hs
   have hFs:∀ i,Fa i->¬i=s:=fun i hi e=>by have:=HS.out.1 i hi;omega
   have KPut:=h_ (put_at (r:=r) (M:=M) (.inl ⟨bt,lp,rfl,hS10⟩) hT hFs (InS.nil r M) hM9 pa pn pc ps HP.out (by omega) (HO.out _ hB _ (fun i hi=>by omega)))
   have HS10:=h_ hS10
   have HFs:=h_ hFs
   have HWS:=h_ hws
   have HBx:=h_ hB
   clear hS10 hT hb hs hws hFs hB
   go_wp2_with fail
   refine KPut.out.mono ?_
   rintro e v11 ⟨rfl,hQ⟩
   obtain ⟨hT,hI,hK⟩:=hQ
   have HS11:=h_ (HS10.out.on hK HFs.out)
   have hB:=HBx.out.trans (hK.below (fun i hi=>by have:=HWS.out;omega) HBx.out.size)
   have HFG:Hid (∀i,Fa i->¬Nxt (fun i=>i=s) v10 v11 i):=h_ fun i hi hn=>hn.elim (HFs.out i hi) (fun h=>by have:=HS10.out.1 i hi;omega)
   have HG11:Hid (∀i,Nxt (fun i=>i=s) v10 v11 i->w.heap.size<=i):=h_ fun i hi=>hi.elim (fun h=>by have:=HWS.out;omega) (fun h=>by have:=HBx.out.size;omega)
   generalize Nxt (fun i=>i=s) v10 v11=G at *
   generalize ps.foldl (putI r M) []=l at *
   clear KPut hK HFs HS10 HBx
   have hlf:=hI.few
   have KAll:=h_ (all_at hT (by omega))
   have HT:=h_ hT
   have HI:=h_ hI
   have HBx:=h_ hB
   clear hT hI hB
   obtain ⟨x1,hx1⟩:∃ x1:Int,x1=((l.length:Int) - (([]:List Nat).length:Int)):=⟨_,rfl⟩
   rw[<-hx1]
   clear hx1
   go_wp2_with fail
   refine KAll.out.mono ?_
   rintro e v12 ⟨u1,rfl,hr1,ho1,hb⟩
   obtain ⟨a1,c1,rfl,hC1⟩:=qaz_ hr1
   have hT:=HT.out.below hb
   have hB:=tb_ HBx.out hb
   have hS12:=HS11.out.below hb
   have KTrim:=h_ (trim_at (.inl ⟨bt,lp,rfl,hS12⟩) hT HI.out hM9 z)
   have HC1:=h_ hC1
   have HO1:Hid (∀i (hi:i<(zs l).length),∃ g,a1=some ⟨g,0,none⟩/\¬G g/\g<v12.heap.size):=h_ fun i hi=>by
    obtain ⟨g,e,hc⟩:=hC1 i hi
    refine ⟨g,e,fun hg=>?_,block_lt_of_cell hc⟩
    have h1:=HT.out.1 g hg
    have h2:=ho1 g (by rw[e];rfl)
    omega
   have HS12:=h_ hS12
   have HTG:=h_ hT.1
   clear hT hS12 hC1 hr1 ho1 hb HT HBx HS11 KAll
   have HBx:=h_ hB
   clear hB
   obtain ⟨L,hL⟩:∃ L,L=l.length:=⟨_,rfl⟩
   obtain ⟨K,hKe⟩:∃ K,K=abv r M l z:=⟨_,rfl⟩
   have hKL:K<=L:=by rw[hL,hKe];exact abv_le
   have hL9:L<=900:=by omega
   have hz1:=qv_ l
   rw[hz1,<-hL]
   rw[<-hL,<-hKe] at KTrim
   obtain ⟨d,hd⟩:∃ d:Int,d=(L:Int) - (K:Int):=⟨_,rfl⟩
   rw[<-hd] at KTrim
   have HL:=h_ hL
   have HKE:=h_ hKe
   clear hL hKe hlf hz1
   go_wp2_with fail
   refine KTrim.out.mono ?_
   rintro e v13 ⟨rfl,hQ⟩
   obtain ⟨hT,hI,hK⟩:=hQ
   have hS13:=HS12.out.on hK HFG.out
   have hB:=HBx.out.trans (hK.below HG11.out HBx.out.size)
   have HC13:Hid (CellsI v13 a1 (zs l)):=h_ fun i hi=>by
    obtain ⟨g,e,hng,hlt⟩:=HO1.out i hi
    obtain ⟨g',e',hc⟩:=HC1.out i hi
    rw[e] at e'
    cases e'
    exact ⟨g,e,(World.cell?_of_block (hK.block g hlt hng)).trans hc⟩
   have KAll:=h_ (all_at hT (by rw[List.length_take];omega))
   have HT:=h_ hT
   have HI13:=h_ hI
   have HS13:=h_ hS13
   have HFG13:Hid (∀i,Fa i->¬Nxt G v12 v13 i):=h_ fun i hi hn=>hn.elim (HFG.out i hi) (fun h=>by have:=HS12.out.1 i hi;omega)
   have HBy:=h_ hB
   clear hT hI hS13 hB hK HC1 HO1 KTrim HS12 HBx HTG
   go_wp2_with fail
   refine KAll.out.mono ?_
   rintro e v14 ⟨u2,rfl,hr2,ho2,hb⟩
   obtain ⟨a2,c2,rfl,hC2⟩:=qaz_ hr2
   have hT:=HT.out.below hb
   have hB:=tb_ HBy.out hb
   have hS14:=HS13.out.below hb
   have hC1:=HC13.out.below hb
   have hlk:(zs (l.take K)).length=K:=by rw[qv_,List.length_take,<-HL.out];omega
   rw[hlk]
   have KHas:Hid (∀w',Below v14.heap.size v14 w'->Calls Tryz.prog 21 #[.pointer (some ⟨s,0,none⟩),.int .i64 z] w' fun e w''=>e = .returned (.bool (isIn (l.take K) z))/\Below w'.heap.size w' w''):=h_ fun w' hb=>has_is (.inl ⟨bt,lp,rfl,hS14.below hb⟩) (hT.below hb) HI13.out hM9 z
   have HLAST:Hid (isIn (l.take K) z=true->0<K/\∀ w',Below v14.heap.size v14 w'->∃ g,a2=some ⟨g,0,none⟩/\w'.cell? ⟨g,K - 1,none⟩=some (.int .i64 z)):=h_ fun hh=>by
    rw[HKE.out] at hh
    obtain ⟨h0,y,hy1,hy2⟩:=qtv_ HI.out hh
    rw[<-HKE.out] at h0 hy1
    refine ⟨h0,fun w' hb'=>?_⟩
    obtain ⟨g,e,hc⟩:=hC2.below hb' (K - 1) (by rw[hlk];omega)
    refine ⟨g,e,hc.trans ?_⟩
    rw[zs_get,List.getElem_take,(List.getElem?_eq_some_iff.1 hy1).2,hy2]
   have HRND:Hid (∀k,k<K->∃ (y:Int) (g1 g2:Nat),a1=some ⟨g1,0,none⟩/\a2=some ⟨g2,0,none⟩/\(∀w',Below v14.heap.size v14 w'->w'.cell? ⟨g1,k,none⟩=some (.int .i64 y)/\w'.cell? ⟨g2,k,none⟩=some (.int .i64 y))/\∀ w',Below v14.heap.size v14 w'->Calls Tryz.prog 22 #[.pointer (some ⟨bt,0,none⟩),.int .i64 z,.int .i64 y] w' fun e w''=>e = .returned (.bool false)/\Below w'.heap.size w' w''):=h_ fun k hk=>by
    obtain ⟨hl1,hh⟩:=qqn_ HI.out z (by rw[<-HKE.out];exact hk)
    obtain ⟨g1,e1,d1⟩:=hC1 k (by rw[qv_];exact hl1)
    obtain ⟨g2,e2,d2⟩:=hC2 k (by rw[hlk];exact hk)
    rw[zs_get] at d1 d2
    rw[List.getElem_take] at d2
    refine ⟨_,g1,g2,e1,e2,fun w' hb'=>⟨(hb'.cell (block_lt_of_cell d1)).trans d1,(hb'.cell (block_lt_of_cell d2)).trans d2⟩,fun w' hb'=>qfr_ (hS14.below hb') _ _ _ hh⟩
   have HB14:=h_ hB
   have hb14:=Below.refl v14.heap.size v14
   generalize isIn (l.take K) z=gh at *
   clear hT hS14 hC1 hC2 hr2 ho2 hb hlk hB HT HI13 HS13 HFG13 HBy KAll HI HL HKE HC13
   have wz:IntKind.i64.wrap ((K:Int)+d)=(L:Int):=by rw[IntKind.wrap_i64];omega
   clear hd
   go_wp2_with fail
   go_loopw [67] (fun u wr=>∃ k:Nat,k<=K/\u = .int .i64 (k:Int)/\Below v14.heap.size v14 wr) (fun u _=>K - (intOf u).toNat)
   case atStart=>exact ⟨0,by omega,rfl,hb14⟩
   case round=>
    clear hb14 wz
    obtain ⟨k,hk,rfl,hb⟩:=hrel
    by_cases hlt:k<K
    ·obtain ⟨y,g1,g2,e1,e2,hc,KH0⟩:=HRND.out k hlt
     subst e1
     subst e2
     obtain ⟨d1,d2⟩:=hc _ hb
     have KH:=h_ KH0
     have hkL:k<L:=by omega
     go_wp2_with fail
     have q1:∀ d os,(Sort.grow (redrawn wr d) os).cell? ⟨g1,k,none⟩=some (.int .i64 y):=cell_regrown d1
     have q2:∀ d os,(Sort.grow (redrawn wr d) os).cell? ⟨g2,k,none⟩=some (.int .i64 y):=cell_regrown d2
     have hRg:∀ d os,Below v14.heap.size v14 (Sort.grow (redrawn wr d) os):=fun d os=>hb.trans ((below_regrown wr d os).mono hb.size)
     have t1:(y != y)=false:=by simp
     clear d1 d2 hc KH0
     refine wp_region_quiet_below (by kernel_rfl) (by kernel_rfl) ?_
     repeat (first
      | go_big_quiet_step ((go_at_call 22;with_reducible exact Calls.regrown_of (KH.out _ (hRg _ _)))))
     refine wpQuiet_nil ?_
     intro v20 hw'
     have hb20:=qk_ v20 hw'
     replace hb:=tb_ hb hb20
     clear hw' hb20 q1 q2 hRg KH t1
     go_wp2_with fail
     go_roundw
     case rel=>exact ⟨k+1,by omega,by go_num,hb⟩
     case measure=>simp[intOf];omega
    ·obtain rfl:k=K:=by omega
     go_wp2_with fail
     refine (KHas.out _ hb).mono ?_
     rintro e v21 ⟨rfl,hb21⟩
     replace hb:=tb_ hb hb21
     clear hb21 KHas
     have hB:=tb_ HB14.out hb
     cases gh
     case false=>
      go_wp2_with fail
      go_ret
      exact ⟨rfl,hB⟩
     case true=>
      obtain ⟨h0,hc⟩:=HLAST.out rfl
      obtain ⟨g2,e2,d2⟩:=hc _ hb
      subst e2
      have wk:IntKind.i64.wrap ((k:Int) - 1)=((k - 1:Nat):Int):=by rw[IntKind.wrap_i64];omega
      obtain ⟨j,hj⟩:∃ j,j=k - 1:=⟨_,rfl⟩
      rw[<-hj] at wk d2
      have hjk:j<k:=by omega
      clear hj hc HLAST HRND
      go_wp2_with fail
      go_ret
      exact ⟨rfl,hB⟩
theorem qtx_ (p:NN.Pr) (hp:p.ok) (h1:p.one) (t:Tl) (tt:p.tl=t.C) (ht:t.ok) (gs:List Gt) (cs:List Ck) (hgn:t.gn=gs.length) (hcn:t.cn=cs.length) (a:Option Addr) (ls:List Ac) (n c:Nat) (hn:n=ls.length) (hl:n<=4611686018427387904) (_:∀ x ∈ ls,-9223372036854775808<=x.now/\x.now<=9223372036854775807) (pa:Option Addr) (ps:List Int) (pn pc:Nat) (hpn:pn=ps.length) (z:Int) (w:World) (hT:Tab w) (hA:ActsAt w a ls) (hG:GatesAt w t.ga gs) (hC:ChecksAt w t.ca cs) (hO:OutI w (fun _=>False) pa ps) :
  Ca_ 4 #[.agg (NN.prA p),.slice a n c,.slice pa pn pc,.int .i64 z] w (.bool true):=by
 have KA:HK_ w 6 #[] (.bool true):=h_ fun w' hb=>alive15 w' (hT.below hb)
 have KG:∀ g,grt15 p t gs cs ls=g->HK_ w 7 #[.agg (NN.prA p),.slice a n c] (.bool g):=fun g hg=>h_ fun w' hb=>qqc_ p hp t tt ht gs cs hgn hcn ls n a c hn hl g hg w' (hA.below hb) (hG.below hb) (hC.below hb)
 cases hg:grt15 p t gs cs ls
 ·have KG1:=KG false hg
  unfold grt15 grtA at hg
  simp only[Bool.or_eq_false_iff,decide_eq_false_iff_not,Bool.not_eq_false'] at hg
  obtain ⟨⟨⟨⟨hg0,hg1⟩,hg2⟩,hg3⟩,hr⟩:=hg
  have hiv:2<=p.ivl:=by
   unfold ruleP NN.Pr.good at hr
   simp only[Bool.and_eq_true,decide_eq_true_eq] at hr
   exact hr.1.1.1.1.1.1.1.1.2
  have HA:=h_ fun w' (hb:Below w.heap.size w w')=>hA.below hb
  have HT:=h_ fun w' (hb:Below w.heap.size w w')=>hT.below hb
  have HGG:Hid (gs.length<=1000/\cs.length<=1000/\2<=p.ivl):=h_ ⟨by omega,by omega,hiv⟩
  have KN:Hid (∀w',Below w.heap.size w w'->Calls Tryz.prog 8 #[.agg (NN.prA p),.int .i64 100] w' fun e w''=>∃ b F,e = .returned (.tuple #[.pointer (some ⟨b,0,none⟩),.int .i64 0])/\TrS w'' F b ⟨p,t.g,gs,cs,100⟩ [entZ] [-1]/\(∀i,F i->w'.heap.size<=i)/\Below w'.heap.size w' w''):=h_ fun w' hb=>qqe_ p hp h1 t tt ht gs cs hgn hcn (by omega) (by omega) 100 hr w' (hT.below hb) (hG.below hb) (hC.below hb)
  by_cases hlong:20<pn
  ·exact grp2_.2 p hp a n c w pa pn pc z (decide_eq_true (by omega)) KA KG1
  ·exact qtw_ p hp ⟨p,t.g,gs,cs,100⟩ a n c w pa pn pc z ps (h_ hpn) (by omega) (decide_eq_false (by omega)) (h_ fun w' hb G hG=>hO.below hb hG) ls HA (h_ hn) (by omega) HT HGG KA KG1 KN
 ·have KG1:=KG true hg
  exact grp2_.1 p hp a n c w pa pn pc z KA KG1
end Go.Proofs.YtbgjiplfaolpjaaGreatDoor.An
namespace Go.Proofs.YtbgjiplfaolpjaaGreatDoor.An
open Go.RowKit Mem Sc Go.Maps
open Ar (Ent Ru entZ Ok isP)
theorem intLaw:Keyed Tryz.prog 3:=int_keyed Tryz.underlying3
theorem zeroBool (w:World):(zeroValue 4).run Tryz.prog w = .ok (.bool false) w:=by kernel_rfl
theorem qhz_ {P:Program} {e:TypeId} (he:P.underlying e=some .bool) {v:Value} {z:DataW Unit × List MemPlace} (h:plainElem P e v=some z):∃ x,v = .bool x/\z=(.lit (.bool x),[]):=by
 unfold plainElem at h
 rw[he] at h
 cases v <;> simp at h
 exact ⟨_,rfl,h.symm⟩
def in64 (x:Int):Prop:=-9223372036854775808<=x/\x<9223372036854775808
theorem wf64 {x:Int} (h:in64 x):(Lit.int .i64 x).wf=true:=WalkArith.wf_i64 (by obtain ⟨h1,h2⟩:=h;omega)
theorem mkm (w:World):(Instr.makeMap 67 none).run Tryz.prog w = .ok (.map (some w.heap.size)) (w.alloc (.map #[] 0)):=by kernel_rfl
def MapI (w:World) (b:Nat) (L:List Int):Prop :=
 ∃ D:DataW Unit,w.ownsMap Tryz.prog 3 (plainElem Tryz.prog 4) b L.length D/\IsMap D/\
  ∀ x:Int,in64 x->D.atKey (.int .i64 x) (.lit (.bool false)) = .lit (.bool (decide (x ∈ L)))
section
variable {w w':World} {b:Nat} {L:List Int}
theorem MapI.lt (h:MapI w b L):b<w.heap.size:=by obtain ⟨D,h,_⟩:=h;exact h.lt
theorem MapI.on (h:MapI w b L) (hb:w'.heap[b]?=w.heap[b]?):MapI w' b L:=by
 obtain ⟨D,⟨es,clock,h1,h2⟩,h3⟩:=h
 exact ⟨D,⟨es,clock,hb.trans h1,h2⟩,h3⟩
theorem MapI.made (w:World):MapI (w.alloc (.map #[] 0)) w.heap.size [] :=
 ⟨.map [],World.ownsMap_made w _ _ _,⟨[],rfl⟩,fun _ _=>rfl⟩
theorem MapI.look (h:MapI w b L) {x:Int} (hx:in64 x) (w':World) (hb:w'.heap[b]?=w.heap[b]?):(Instr.lookup 67 (.map (some b)) (.int .i64 x) false).run Tryz.prog w' = .ok (.bool (decide (x ∈ L))) w':=by
 obtain ⟨D,hown,_,hD⟩:=h.on hb
 obtain ⟨v,ps,hrun,hv⟩:=hown.lookup intLaw Tryz.underlying67 (zeroBool w') (plainElem_bool Tryz.underlying4 false) (keyOf_int_mk Tryz.underlying3 (wf64 hx))
 obtain ⟨c,rfl,hc⟩:=qhz_ Tryz.underlying4 hv
 rw[hD x hx] at hc
 have h1:=congrArg Prod.fst hc
 simp only[DataW.lit.injEq,Lit.bool.injEq] at h1
 rw[h1]
 exact hrun
theorem qzh_ {ops:Array Oper} {rest:List Oper} {o:Oper} {a:Act} {Q:Exit->Act->World->Prop} (hgd:o.guard=none) (x y z:Operand) (ho:o.op = .mapUpdate 67 x y z) (k:Int) (hx:a.eval x = .map (some b)) (hy:a.eval y = .int .i64 k) (hz:a.eval z = .bool true) (h:MapI w b L) (hk:in64 k) (hL:L.length<1000)
  (hK:∀ w',MapI w' b (L ++ [k])->w.grownBy w' (some b)->wpList Tryz.prog ops Q rest (a.put o.dst undef) w'):wpList Tryz.prog ops Q (o :: rest) a w:=by
 obtain ⟨D,hown,hM,hD⟩:=h
 have hkl:=keyOf_int_mk Tryz.underlying3 (wf64 hk)
 refine wpList_mapUpdate_own w hgd x y z _ ho _ _ intLaw Tryz.underlying67 _ b L.length D hx hown (by unfold maxLen;omega) _ _ (.int .i64 k) hy hz hkl (.lit (.bool true)) [] (plainElem_bool Tryz.underlying4 true) fun w' h1 h2=>hK w' ⟨_,by simpa using h1,hM.put _ _,fun y hy=>?_⟩ h2
 by_cases e:y=k
 ·subst e
  rw[atKey_put_same hM (intLaw.key hkl)]
  simp
 ·rw[atKey_put_other (fun h=>e (by injection h)),hD y hy]
  simp[e]
end
section
variable {r:Ru} {M:List Ent}
theorem qqo_:∀ (ps:List Int) (l:List Nat) (y:Nat),y ∈ ps.foldl (putI r M) l ↔ y ∈ l\/(y:Int) ∈ ps/\y<M.length
 | [],l,y=>by simp
 | x :: ps,l,y=>by
  rw[List.foldl_cons,qqo_ ps,qqk_,List.mem_cons]
  constructor
  ·rintro ((h|h)|h)
   ·exact .inl h
   ·exact .inr ⟨.inl h.1,h.2⟩
   ·exact .inr ⟨.inr h.1,h.2⟩
  ·rintro (h|⟨h|h,h2⟩)
   ·exact .inl (.inl h)
   ·exact .inl (.inr ⟨h,h2⟩)
   ·exact .inr ⟨h,h2⟩
theorem qks_:∀ (ps:List Int) (l:List Nat) (_:InS r M l) (y:Nat),y ∈ ps.foldl (dropI r M) l ↔ y ∈ l/\(y:Int) ∉ ps
 | [],l,_,y=>by simp
 | x :: ps,l,h,y=>by
  rw[List.foldl_cons,qks_ ps _ (qjj_ h x),qtt_ h,List.mem_cons]
  constructor
  ·rintro ⟨⟨h1,h2⟩,h3⟩
   exact ⟨h1,fun hc=>hc.elim h2 h3⟩
  ·rintro ⟨h1,h2⟩
   exact ⟨⟨h1,fun e=>h2 (.inl e)⟩,fun e=>h2 (.inr e)⟩
def unl (r:Ru) (M:List Ent) (dr:List Int) (l:List Nat) (x:Int):List Nat:=if decide (x ∈ dr)=true then l else putI r M l x
theorem unl_in {l:List Nat} (dr:List Int) (h:InS r M l) (x:Int):InS r M (unl r M dr l x):=by
 unfold unl
 by_cases h1:decide (x ∈ dr)=true
 ·rw[if_pos h1];exact h
 ·rw[if_neg h1];exact qqj_ h x
theorem qqp_ (dr:List Int):∀ (ps:List Int) (l:List Nat) (y:Nat),y ∈ ps.foldl (unl r M dr) l ↔ y ∈ l\/((y:Int) ∈ ps/\(y:Int) ∉ dr)/\y<M.length
 | [],l,y=>by simp
 | x :: ps,l,y=>by
  rw[List.foldl_cons,qqp_ dr ps,List.mem_cons]
  unfold unl
  by_cases h1:x ∈ dr
  ·rw[if_pos (decide_eq_true h1)]
   constructor
   ·rintro (h|⟨⟨h,h2⟩,h3⟩)
    ·exact .inl h
    ·exact .inr ⟨⟨.inr h,h2⟩,h3⟩
   ·rintro (h|⟨⟨h|h,h2⟩,h3⟩)
    ·exact .inl h
    ·exact absurd (h ▸ h1) h2
    ·exact .inr ⟨⟨h,h2⟩,h3⟩
  ·rw[if_neg (by simpa using h1),qqk_]
   constructor
   ·rintro ((h|h)|⟨⟨h,h2⟩,h3⟩)
    ·exact .inl h
    ·exact .inr ⟨⟨.inl h.1,h.1 ▸ h1⟩,h.2⟩
    ·exact .inr ⟨⟨.inr h,h2⟩,h3⟩
   ·rintro (h|⟨⟨h|h,h2⟩,h3⟩)
    ·exact .inl (.inl h)
    ·exact .inl (.inr ⟨h,h3⟩)
    ·exact .inr ⟨⟨h,h2⟩,h3⟩
theorem qqq_ (ps dr:List Int):dr.foldl (dropI r M) (ps.foldl (putI r M) [])=ps.foldl (unl r M dr) []:=by
 have h0:=InS.nil r M
 have h1:=qkr_ (putI r M) (fun _ x h=>qqj_ h x) ps [] h0
 have h2:=qkr_ (dropI r M) (fun _ x h=>qjj_ h x) dr _ h1
 have h3:=qkr_ (unl r M dr) (fun _ x h=>unl_in dr h x) ps [] h0
 refine Tp.Srt.eq (Hv_tot r M) h2.srt h3.srt fun y=>?_
 rw[qks_ dr _ h1,qqo_,qqp_]
 constructor
 ·rintro ⟨h|h,h2⟩
  ·simp at h
  ·exact .inr ⟨⟨h.1,h2⟩,h.2⟩
 ·rintro (h|⟨⟨h,h2⟩,h3⟩)
  ·simp at h
  ·exact ⟨.inr ⟨h,h3⟩,h2⟩
end
section
variable {w w1 w2:World} {G:Nat->Prop} {s:Nat} {q:Option Addr} {r:Ru} {M:List Ent} {l m:List Nat}
theorem StQ.trans (h:StQ w G s q r M w1 l) (h':StQ w1 (Nxt G w w1) s q r M w2 m):StQ w G s q r M w2 m:=by
 obtain ⟨_,_,h1⟩:=h
 obtain ⟨h2,h3,h4⟩:=h'
 have hs1:=h1.size
 have hs2:=h4.size
 refine ⟨h2.wide (fun i hi=>?_) (fun i hi=>?_),h3,h1.trans h4 fun i hi hlt=>hi.elim id fun hi=>by omega⟩
 ·rcases hi with (hi|hi)|hi
  ·exact .inl hi
  ·exact .inr ⟨hi.1,by omega⟩
  ·exact .inr ⟨by omega,hi.2⟩
 ·exact h2.1 i (hi.elim (fun hi=>.inl (.inl hi)) fun hi=>if hh:i<w1.heap.size then .inl (.inr ⟨hi.1,hh⟩) else .inr ⟨by omega,hi.2⟩)
end
end Go.Proofs.YtbgjiplfaolpjaaGreatDoor.An
namespace Go.Proofs.YtbgjiplfaolpjaaGreatDoor.An
open Go.RowKit Mem Sc
open Ar (Ent Ru entZ Ok isP)
set_option maxRecDepth 100000
set_option maxHeartbeats 12000000 in
theorem grp3_:(∀(p:NN.Pr) (_hp:p.ok) (a:Option Addr) (n c:Nat) (w:World) (pa:Option Addr) (pn pc:Nat) (da:Option Addr) (dn dc:Nat) (_KA:HK_ w 6 #[] (.bool true)) (_KG:HK_ w 7 #[.agg (NN.prA p),.slice a n c] (.bool true)),Ca_ 5 #[.agg (NN.prA p),.slice a n c,.slice pa pn pc,.slice da dn dc] w (.bool true))/\
  (∀(p:NN.Pr) (_hp:p.ok) (a:Option Addr) (n c:Nat) (w:World) (pa:Option Addr) (pn pc:Nat) (da:Option Addr) (dn dc:Nat) (_hlong:decide ((20:Int)<(pn:Int))=true) (_KA:HK_ w 6 #[] (.bool true)) (_KG:HK_ w 7 #[.agg (NN.prA p),.slice a n c] (.bool false)),Ca_ 5 #[.agg (NN.prA p),.slice a n c,.slice pa pn pc,.slice da dn dc] w (.bool true))/\
  (∀(p:NN.Pr) (_hp:p.ok) (a:Option Addr) (n c:Nat) (w:World) (pa:Option Addr) (pn pc:Nat) (da:Option Addr) (dn dc:Nat) (_hlong:decide ((20:Int)<(pn:Int))=false) (_hlong2:decide ((20:Int)<(dn:Int))=true) (_KA:HK_ w 6 #[] (.bool true)) (_KG:HK_ w 7 #[.agg (NN.prA p),.slice a n c] (.bool false)),Ca_ 5 #[.agg (NN.prA p),.slice a n c,.slice pa pn pc,.slice da dn dc] w (.bool true)):=by
 refine ⟨fun p hp a n c w pa pn pc da dn dc KA KG=>?_,
  fun p hp a n c w pa pn pc da dn dc hlong KA KG=>?_,
  fun p hp a n c w pa pn pc da dn dc hlong hlong2 KA KG=>?_⟩
 all_goals
  have hz:=NN.qam_ hp
  go_enter Tryz.func5,Tryz.ntmps5
  go_upto_region 1 with fail
  generalize hw0:World.alloc _ _=v0
  have hB:Below w.heap.size w v0:=bl_ hw0
  have hP:NN.PrAt v0 w.heap.size p:=by rw[<-hw0];exact NN.Has.new _ _
  clear hw0
  obtain ⟨bP,hbP⟩:∃ x,x=w.heap.size:=⟨_,rfl⟩
  rw[<-hbP] at hP |-
  have HBP:Hid (bP=w.heap.size):=h_ hbP
  clear hbP
  go_wp2_with (first|fail)
  refine (KA.out _ hB).mono ?_
  rintro e v1 ⟨rfl,hb⟩
  replace hP:=hP.on hb
  replace hB:=tb_ hB hb
  clear hb
  go_wp2_with (with_reducible first|refine NN.qs_ rfl _ rfl _ rfl hP hz ?_|refine NN.qp_ (by with_unfolding_all rfl) _ rfl _ rfl hP hz ?_)
  refine (KG.out _ hB).mono ?_
  rintro e v2 ⟨rfl,hb⟩
  replace hP:=hP.on hb
  replace hB:=tb_ hB hb
  clear hb
  go_wp2_with fail
  go_ret
  exact ⟨rfl,hB⟩
set_option maxHeartbeats 8000000 in
theorem qqr_ (p:NN.Pr) (hp:p.ok) (r:Ru) (a:Option Addr) (n c:Nat) (w:World) (pa:Option Addr) (pn pc:Nat) (da:Option Addr) (dn dc:Nat) (ps dr:List Int) (HP:Hid (pn=ps.length)) (HD:Hid (dn=dr.length)) (hp20:pn<=20) (hd20:dn<=20) (HP64:Hid (∀x ∈ ps,in64 x)) (HD64:Hid (∀x ∈ dr,in64 x)) (hlong:decide ((20:Int)<(pn:Int))=false) (hlong2:decide ((20:Int)<(dn:Int))=false) (HO:Hid (∀w',Below w.heap.size w w'->∀ G:Nat->Prop,(∀i,G i->w.heap.size<=i)->OutI w' G pa ps)) (HO2:Hid (∀w',Below w.heap.size w w'->∀ G:Nat->Prop,(∀i,G i->w.heap.size<=i)->OutI w' G da dr)) (ls:List Ac) (HA:Hid (∀w',Below w.heap.size w w'->ActsAt w' a ls)) (HN:Hid (n=ls.length)) (hn40:n<=40) (HT:Hid (∀w',Below w.heap.size w w'->Tab w')) (HG:Hid (r.gs.length<=1000/\r.cs.length<=1000/\2<=r.p.ivl)) (KA:HK_ w 6 #[] (.bool true)) (KG:HK_ w 7 #[.agg (NN.prA p),.slice a n c] (.bool false)) (KN:Hid (∀w',Below w.heap.size w w'->Calls Tryz.prog 8 #[.agg (NN.prA p),.int .i64 100] w' fun e w''=>∃ b F,e = .returned (.tuple #[.pointer (some ⟨b,0,none⟩),.int .i64 0])/\TrS w'' F b r [entZ] [-1]/\(∀i,F i->w'.heap.size<=i)/\Below w'.heap.size w' w'')) :
  Ca_ 5 #[.agg (NN.prA p),.slice a n c,.slice pa pn pc,.slice da dn dc] w (.bool true):=by
 have hz:=NN.qam_ hp
 go_enter Tryz.func5,Tryz.ntmps5
 go_upto_region 1 with fail
 generalize hw0:World.alloc _ _=v0
 have hB:Below w.heap.size w v0:=bl_ hw0
 have hP:NN.PrAt v0 w.heap.size p:=by rw[<-hw0];exact NN.Has.new _ _
 clear hw0
 obtain ⟨bP,hbP⟩:∃ x,x=w.heap.size:=⟨_,rfl⟩
 rw[<-hbP] at hP |-
 have HBP:Hid (bP=w.heap.size):=h_ hbP
 clear hbP
 go_wp2_with (first|fail)
 refine (KA.out _ hB).mono ?_
 rintro e v1 ⟨rfl,hb⟩
 replace hP:=hP.on hb
 replace hB:=tb_ hB hb
 clear hb
 go_wp2_with (with_reducible first|refine NN.qs_ rfl _ rfl _ rfl hP hz ?_|refine NN.qp_ (by with_unfolding_all rfl) _ rfl _ rfl hP hz ?_)
 refine (KG.out _ hB).mono ?_
 rintro e v2 ⟨rfl,hb⟩
 replace hP:=hP.on hb
 replace hB:=tb_ hB hb
 clear hb
 go_wp2_with (first|fail|(with_reducible refine NN.qs_ rfl _ rfl _ rfl hP hz ?_))
 refine (KN.out _ hB).mono ?_
 rintro e v3 ⟨bt,F,rfl,hS,hF,hb⟩
 have HF0:Hid (∀i,F i->w.heap.size<=i):=h_ fun i hi=>Nat.le_trans hB.size (hF i hi)
 replace hB:=tb_ hB hb
 clear hb hF hP
 go_wp2_with fail
 go_loopw [45] (fun i wr=>∃ k:Nat,k<=n/\i = .int .i64 (k:Int)/\∃ Fa M lp,TrS wr Fa bt r M lp/\Hid (Ok r M/\M.length<=k+1/\lp.length=M.length/\∀ i,Fa i->w.heap.size<=i)/\Below w.heap.size w wr) (fun i _=>n - (intOf i).toNat)
 case atStart=>exact ⟨0,by omega,rfl,F,[entZ],[-1],hS,h_ ⟨Ok.one r,Nat.le_refl _,rfl,HF0.out⟩,hB⟩
 case round=>
  clear hS hB HF0 F
  obtain ⟨k,hk,rfl,Fa,M,lp,hS,HM,hB⟩:=hrel
  by_cases hlt:k<n
  ·obtain ⟨ab,ao,hae,habl,hc⟩:=(HA.out _ hB) (by rw[<-HN.out];omega)
   subst hae
   have hk2:k<ls.length:=by rw[<-HN.out];exact hlt
   obtain ⟨q0,q1⟩:=hc k hk2
   clear hc
   generalize ls[k]=y at *
   clear hk2
   have z1:=qdg_ q0
   have z2:=qdr_ q0
   have z0:=qdr_ (c:=acZ) hdZ_ok
   have zy:=qj_ q0
   have hb2:Below wr.heap.size wr ((wr.alloc (.cells Tryz.zeroCells46 46)).setRow wr.heap.size (acA y)):=below_setRow ((Below.refl _ _).alloc (Nat.le_refl _) _) (Nat.le_refl _) _
   have hY:=qqb_ wr y
   have hnew:=qkp_ wr
   have hB2:=tb_ hB hb2
   have hS2:=hS.below hb2
   have hT2:=HT.out _ hB2
   have cn:=hY.now q0
   have rh:=hY.head
   have KAdd:=h_ (qve_ hS2 HM.out.1 (by have:=HM.out.2.1;omega) HM.out.2.2.1 HG.out.1 HG.out.2.1 hT2 y.h q0 y.now)
   clear hS hS2 hB hT2
   go_wp2_with (with_reducible first|refine qcn_ rfl _ rfl ab (ao+k*71) rfl y q1 z1 ?_|refine qgl_ rfl _ _ rfl _ _ y rfl rfl rfl z2 hnew z0 ?_|refine qdj_ rfl _ rfl _ 1 rfl y.h rh zy ?_)
   refine KAdd.out.mono ?_
   rintro e v6 ⟨rfl,⟨lp2,hlp2,hS6⟩,hK6⟩
   generalize World.setRow _ _ _=v5 at *
   have hB6:=hB2.trans (hK6.below HM.out.2.2.2 hB2.size)
   have HFa6:Hid (∀i,Nxt Fa v5 v6 i->w.heap.size<=i):=h_ fun i hi=>hi.elim (HM.out.2.2.2 i) (fun h=>Nat.le_trans hB2.size h.1)
   have hOk:=HM.out.1.add q0 y.now
   have hlen:=qqm_ r M y.h y.now
   have HM7:Hid (Ok r (Ar.add r M y.h y.now).2/\(Ar.add r M y.h y.now).2.length<=k+1+1/\lp2.length=(Ar.add r M y.h y.now).2.length/\∀ i,Nxt Fa v5 v6 i->w.heap.size<=i):=h_ ⟨hOk,by have:=HM.out.2.1;omega,hlp2,HFa6.out⟩
   clear hK6 hB2 KAdd hb2 HM hY cn rh hlp2 hOk hlen HFa6 hnew
   generalize (Ar.add r M y.h y.now).2=M' at *
   generalize (Ar.add r M y.h y.now).1=res at *
   generalize Nxt Fa v5 v6=Fa' at *
   go_wp2_with fail
   go_roundw
   case rel=>exact ⟨k+1,by omega,by go_num,Fa',M',lp2,hS6,HM7,hB6⟩
   case measure=>simp[intOf];omega
  ·obtain rfl:k=n:=by omega
   have hM9:M.length<=900:=by have:=HM.out.2.1;omega
   have HS:=h_ hS
   have HB0:=h_ hB
   clear hS
   go_wp2_with fail
   refine (qkq_ (some ⟨bt,0,none⟩) _).mono ?_
   rintro e v10 ⟨s,rfl,hs,hT,hb⟩
   have hS10:=HS.out.below hb
   replace hB:=tb_ hB hb
   have hws:w.heap.size<=s:=Nat.le_trans HB0.out.size hs
   have hFs:∀ i,Fa i->i ≠ s:=fun i hi e=>by have:=HS.out.1 i hi;omega
   have hss:=hT.1 s rfl
   clear hb hs
   go_wp2_with fail
   refine (qkq_ (some ⟨bt,0,none⟩) v10).mono ?_
   rintro e v11 ⟨s2,rfl,hs2,hT2,hb⟩
   have hS11:=hS10.below hb
   replace hT:=hT.below hb
   have hBv:=tb_ hB hb
   have hne:s ≠ s2:=by omega
   have hFs2:∀ i,Fa i->i ≠ s2:=fun i hi e=>by have:=hS10.1 i hi;omega
   have hws2:w.heap.size<=s2:=Nat.le_trans hB.size hs2
   have KPut:=h_ (put_at (r:=r) (M:=M) (.inl ⟨bt,lp,rfl,hS11⟩) hT (fun i hi e=>hFs i hi e) (InS.nil r M) hM9 pa pn pc ps HP.out (by omega) (HO.out _ hBv _ (fun i hi=>by omega)))
   have HS11:=h_ hS11
   have HB11:=h_ hBv
   have HT2:=h_ hT2
   have HNE:Hid (s ≠ s2/\(∀i,Fa i->i ≠ s)/\(∀i,Fa i->i ≠ s2)/\w.heap.size<=s/\w.heap.size<=s2/\s<v11.heap.size):=h_ ⟨hne,hFs,hFs2,hws,hws2,hT.1 s rfl⟩
   clear hS10 hS11 hT hT2 hb hs2 hws hws2 hFs hFs2 hB hBv hne hss HB0 HS
   go_wp2_with fail
   refine KPut.out.mono ?_
   rintro e v12 ⟨rfl,hQ⟩
   have HQ1:=h_ hQ
   have hS12:=HS11.out.on hQ.2.2 (fun i hi e=>HNE.out.2.1 i hi e)
   have hB12:=HB11.out.trans (hQ.2.2.below (fun i hi=>by have:=HNE.out.2.2.2.1;omega) HB11.out.size)
   have hG12:∀ i,Nxt (fun i=>i=s) v11 v12 i->w.heap.size<=i:=fun i hi=>hi.elim (fun e=>by have:=HNE.out.2.2.2.1;omega) (fun hh=>Nat.le_trans HB11.out.size hh.1)
   have KDrop:=h_ (drop_at (r:=r) (M:=M) (.inl ⟨bt,lp,rfl,hS12⟩) hQ.1 (fun i hi hn=>hn.elim (fun e=>HNE.out.2.1 i hi e) (fun hh=>by have:=HS11.out.1 i hi;omega)) hQ.2.1 hM9 da dn dc dr HD.out (by omega) (HO2.out _ hB12 _ hG12))
   obtain ⟨z1,hz1⟩:∃ z1:Int,z1=(((ps.foldl (putI r M) []).length:Int) - (([]:List Nat).length:Int)):=⟨_,rfl⟩
   rw[<-hz1]
   clear hz1 hQ hS12 hB12 hG12 KPut
   go_wp2_with fail
   refine KDrop.out.mono ?_
   rintro e v13 ⟨rfl,hQ⟩
   have hQ13:=HQ1.out.trans hQ
   obtain ⟨hT,hI,hK⟩:=hQ13
   have hS13:=HS11.out.on hK (fun i hi e=>HNE.out.2.1 i hi e)
   have hT2:=HT2.out.on hK (fun i hi e=>HNE.out.1 (by omega))
   have hB13:=HB11.out.trans (hK.below (fun i hi=>by have:=HNE.out.2.2.2.1;omega) HB11.out.size)
   obtain ⟨z2,hz2⟩:∃ z2:Int,z2=(((ps.foldl (putI r M) []).length:Int) - ((dr.foldl (dropI r M) (ps.foldl (putI r M) [])).length:Int)):=⟨_,rfl⟩
   rw[<-hz2]
   rw[qqq_] at hT hI
   have HL:Hid (∀l',l'=ps.foldl (unl r M dr) []->InS r M l'):=h_ fun l' e=>e ▸ hI
   have HTa:=h_ hT
   have HTb:=h_ hT2
   have HS13:=h_ hS13
   have HB13:=h_ hB13
   have HG13:Hid (∀i,Nxt (fun i=>i=s) v11 v13 i->w.heap.size<=i/\i ≠ s2/\¬Fa i):=h_ fun i hi=>hi.elim (fun e=>by subst e;exact ⟨HNE.out.2.2.2.1,HNE.out.1,fun hf=>HNE.out.2.1 _ hf rfl⟩) (fun hh=>⟨Nat.le_trans HB11.out.size hh.1,fun e=>by have:=HT2.out.1 s2 rfl;omega,fun hf=>by have:=HS11.out.1 i hf;omega⟩)
   generalize Nxt (fun i=>i=s) v11 v13=G at *
   clear hz2 hT hT2 hS13 hB13 hQ hK hI HQ1 KDrop HS11 HB11 HT2
   have hmM:=MapI.made v13
   have hmm:=mkm v13
   have hbM:Below v13.heap.size v13 (v13.alloc (.map #[] 0)):=(Below.refl _ _).alloc (Nat.le_refl _) _
   have hsz:v13.heap.size<(v13.alloc (.map #[] 0)).heap.size:=by simp
   go_wp2_with fail
   generalize v13.alloc (.map #[] 0)=v14 at *
   obtain ⟨bm,hbm⟩:∃ bm,bm=v13.heap.size:=⟨_,rfl⟩
   rw[<-hbm] at hmM hsz |-
   have HTa14:=h_ (HTa.out.below hbM)
   have HTb14:=h_ (HTb.out.below hbM)
   have HS14:=h_ (HS13.out.below hbM)
   have HB14:=h_ (tb_ HB13.out hbM)
   have HBM:Hid (w.heap.size<=bm/\(∀i,G i->i ≠ bm)/\(∀i,Fa i->i ≠ bm)/\s2 ≠ bm):=h_ ⟨by have:=HB13.out.size;omega,fun i hi e=>by have:=HTa.out.1 i hi;omega,fun i hi e=>by have:=HS13.out.1 i hi;omega,by have:=HTb.out.1 s2 rfl;omega⟩
   have HK14:Hid (Kp (fun i=>i=bm) v14 v14):=h_ (Kp.refl _ _)
   have HM14:=h_ hmM
   clear hbm hbM hmM HTa HTb HS13 HB13 hsz hmm
   go_loopw [69] (fun u wr=>∃ k:Nat,k<=dn/\u = .int .i64 (k:Int)/\Hid (Kp (fun i=>i=bm) v14 wr/\MapI wr bm (dr.take k))) (fun u _=>dn - (intOf u).toNat)
   case atStart=>exact ⟨0,by omega,rfl,h_ ⟨HK14.out,HM14.out⟩⟩
   case round=>
    clear HK14 HM14
    obtain ⟨k,hk,rfl,HKM⟩:=hrel
    have hBr:=HB14.out.trans (HKM.out.1.below (fun i hi=>by have:=HBM.out.1;omega) HB14.out.size)
    by_cases hlt:k<dn
    ·have hk2:k<dr.length:=by rw[<-HD.out];exact hlt
     obtain ⟨ab,ao,hae,_,_,hc⟩:=HO2.out _ hBr (fun _=>False) (fun _ hf=>hf.elim) (by omega)
     subst hae
     have c0:=hc k hk2
     have hx64:=HD64.out _ (List.getElem_mem hk2)
     have HNX:Hid (dr.take (k+1)=dr.take k ++ [dr[k]]):=h_ (by rw[List.take_add_one,List.getElem?_eq_getElem hk2];rfl)
     generalize dr[k]=x at *
     have hMM:=HKM.out.2
     have hlen:(dr.take k).length<1000:=by rw[List.length_take];omega
     clear hc hk2 hBr
     go_wp2_with (first|(refine qzh_ rfl _ _ _ rfl x rfl rfl rfl hMM hx64 hlen ?_;intro v20 hM20 hg20))
     have HKN:Hid (Kp (fun i=>i=bm) v14 v20/\MapI v20 bm (dr.take (k+1))):=h_ ⟨HKM.out.1.trans (Kp.gb (F:=fun i=>i=bm) hg20 (fun j hj=>(Option.some.inj hj).symm)) (fun _ h _=>h),by rw[HNX.out];exact hM20⟩
     clear hM20 hg20 hMM c0
     go_wp2_with fail
     go_roundw
     case rel=>exact ⟨k+1,by omega,by go_num,HKN⟩
     case measure=>simp[intOf];omega
    ·obtain rfl:k=dn:=by omega
     rename World=>vr
     have hd:dr.take k=dr:=by rw[HD.out,List.take_length]
     have HTa15:=h_ (HTa14.out.on HKM.out.1 (fun i hi e=>HBM.out.2.1 i hi e))
     have HTb15:=h_ (HTb14.out.on HKM.out.1 (fun i hi e=>HBM.out.2.2.2 (by omega)))
     have HS15:=h_ (HS14.out.on HKM.out.1 (fun i hi e=>HBM.out.2.2.1 i hi e))
     have HM15:Hid (MapI vr bm dr):=h_ (by have:=HKM.out.2;rwa [hd] at this)
     have HB15:=h_ hBr
     have HQ0:Hid (StQ vr (fun i=>i=s2) s2 (some ⟨bt,0,none⟩) r M vr []):=h_ ⟨HTb15.out.wide (fun i hi=>.inl hi) (fun i hi=>hi.elim (fun e=>e ▸ HTb15.out.1 s2 rfl) (fun hi=>hi.2)),InS.nil r M,Kp.refl _ _⟩
     clear HKM hd HTa14 HTb14 HS14 HB14 hBr HD64 HO2 hlong hlong2
     go_wp2_with fail
     go_loopw [78] (fun u wr=>∃ (j:Nat) (m:List Nat),j<=pn/\u = .int .i64 (j:Int)/\Hid (m=(ps.take j).foldl (unl r M dr) [])/\Hid (StQ vr (fun i=>i=s2) s2 (some ⟨bt,0,none⟩) r M wr m)) (fun u _=>pn - (intOf u).toNat)
     case atStart=>exact ⟨0,[],by omega,rfl,h_ rfl,HQ0⟩
     case round=>
      clear HQ0
      obtain ⟨j,m,hj,rfl,HM,HQ⟩:=hrel
      have hK2:=HQ.out.2.2
      have hB2:=HB15.out.trans (hK2.below (fun i hi=>by have:=HNE.out.2.2.2.2.1;omega) HB15.out.size)
      have hS2:=HS15.out.on hK2 (fun i hi e=>HNE.out.2.2.1 i hi e)
      have hTa2:=HTa15.out.on hK2 (fun i hi e=>(HG13.out i hi).2.1 e)
      by_cases hltj:j<pn
      ·have hj2:j<ps.length:=by rw[<-HP.out];exact hltj
       obtain ⟨ab,ao,hae,_,_,hc⟩:=HO.out _ hB2 (fun _=>False) (fun _ hf=>hf.elim) (by omega)
       subst hae
       have c0:=hc j hj2
       have hx64:=HP64.out _ (List.getElem_mem hj2)
       have HNX:Hid ((ps.take (j+1)).foldl (unl r M dr) []=unl r M dr m ps[j]):=h_ (by rw[qgn_ (unl r M dr) [] ps j hj2,<-HM.out])
       generalize ps[j]=x at *
       have hbmlt:=HM15.out.lt
       have hlook:=HM15.out.look hx64 wr (hK2.block bm hbmlt (fun e=>HBM.out.2.2.2 e.symm))
       obtain ⟨g,hg⟩:∃ g,g=decide (x ∈ dr):=⟨_,rfl⟩
       rw[<-hg] at hlook
       have HU1:Hid (g=true->unl r M dr m x=m):=h_ fun e=>by unfold unl;rw[if_pos (by rw[<-hg,e])]
       have HU2:Hid (g=false->unl r M dr m x=putI r M m x):=h_ fun e=>by unfold unl;rw[if_neg (by rw[<-hg,e];simp)]
       have hbx:Below wr.heap.size wr (wr.alloc (.cells #[.int .i64 x] 3)):=(Below.refl _ _).alloc (Nat.le_refl _) _
       have hx0:Has (wr.alloc (.cells #[.int .i64 x] 3)) wr.heap.size #[.int .i64 x] 3:=Has.new _ _
       have hQx:StQ vr (fun i=>i=s2) s2 (some ⟨bt,0,none⟩) r M (wr.alloc (.cells #[.int .i64 x] 3)) m:=HQ.out.below (fun i hi=>by have:=HTb15.out.1 s2 rfl;omega) hbx
       have KPut:=h_ (put_at (r:=r) (M:=M) (.inl ⟨bt,lp,rfl,hS2.below hbx⟩) (HQ.out.1.below hbx) (fun i hi hn=>hn.elim (fun e=>HNE.out.2.2.1 i hi e) (fun hh=>by have:=HS15.out.1 i hi;omega)) HQ.out.2.1 hM9 (some ⟨wr.heap.size,0,none⟩) 1 1 [x] rfl (by decide) (fun _=>⟨wr.heap.size,0,rfl,hx0.lt,fun hn=>absurd (HQ.out.1.1 _ hn) (by omega),fun i hi=>by
        obtain rfl:i=0:=by simpa using hi
        exact hx0.cell 0⟩))
       have HQX:=h_ hQx
       have hmk:=fun w=>qde_ w x
       clear hc hj2 hg hbx hx0 hQx hK2 hB2 hS2 hTa2
       cases g
       case true=>
        go_wp2_with fail
        go_roundw
        case rel=>exact ⟨j+1,m,by omega,by go_num,h_ (by rw[HNX.out,HU1.out (by simp)]),HQ⟩
        case measure=>simp[intOf];omega
       case false=>
        go_wp2_with fail
        refine KPut.out.mono ?_
        rintro e w3 ⟨rfl,hQ3⟩
        have HQ3:Hid (StQ vr (fun i=>i=s2) s2 (some ⟨bt,0,none⟩) r M w3 (unl r M dr m x)):=h_ (by
         rw[HU2.out (by simp)]
         refine HQX.out.trans ?_
         obtain ⟨y1,y2,y3⟩:=hQ3
         have hsz2:wr.heap.size<=(wr.alloc (.cells #[.int .i64 x] 3)).heap.size:=by simp
         refine ⟨y1.wide (fun i hi=>hi.elim (fun hi=>.inl (qex_ hsz2 i hi)) .inr) (fun i hi=>?_),y2,y3.mono fun i hi _=>qex_ hsz2 i hi⟩
         have hy3:=y3.size
         exact hi.elim (fun hi=>hi.elim (fun e=>by have:=HTb15.out.1 s2 rfl;have:=HQX.out.2.2.size;omega) (fun hh=>by omega)) (fun hh=>hh.2))
        obtain ⟨z9,hz9⟩:∃ z9:Int,z9=((([x].foldl (putI r M) m).length:Int) - (m.length:Int)):=⟨_,rfl⟩
        rw[<-hz9]
        clear hz9 hQ3 KPut HQX hlook c0 hmk
        generalize unl r M dr m x=m' at *
        go_wp2_with fail
        go_roundw
        case rel=>exact ⟨j+1,m',by omega,by go_num,h_ HNX.out.symm,HQ3⟩
        case measure=>simp[intOf];omega
      ·obtain rfl:j=pn:=by omega
       have hm:m=ps.foldl (unl r M dr) []:=by rw[HM.out,HP.out,List.take_length]
       rw[<-hm] at hTa2
       have hIn:=HL.out m hm
       have hfew:=hIn.few
       have KAll1:=h_ (all_at hTa2 (by omega))
       have HTa2:=h_ hTa2
       have HS2:=h_ hS2
       have HB2:=h_ hB2
       have HIN:=h_ hIn
       clear hm hIn hTa2 hS2 hB2 hK2 HM
       go_wp2_with fail
       refine KAll1.out.mono ?_
       rintro e w4 ⟨u1,rfl,hr1,_,hb⟩
       obtain ⟨a1,c1,rfl,hC1⟩:=qaz_ hr1
       have KAll2:=h_ (all_at (HQ.out.1.below hb) (by omega))
       have HC1:=h_ hC1
       have hTa4:=HTa2.out.below hb
       have hS4:=HS2.out.below hb
       have hB4:=tb_ HB2.out hb
       have HTa4:=h_ hTa4
       have HS4:=h_ hS4
       have HB4:=h_ hB4
       have hz:=qv_ m
       obtain ⟨L,hL⟩:∃ L,L=m.length:=⟨_,rfl⟩
       rw[hz,<-hL]
       have HL2:=h_ hL
       have hL9:L<=900:=by omega
       clear hz hL hTa4 hS4 hB4 hb hr1 hC1 HTa2 HS2 HB2 KAll1 hfew
       go_wp2_with fail
       refine KAll2.out.mono ?_
       rintro e w5 ⟨u2,rfl,hr2,_,hb⟩
       obtain ⟨a2,c2,rfl,hC2⟩:=qaz_ hr2
       have hC1:=HC1.out.below hb
       have hTa5:=HTa4.out.below hb
       have hS5:=HS4.out.below hb
       have hB5:=tb_ HB4.out hb
       have hz:(zs m).length=L:=by rw[qv_,HL2.out]
       rw[hz]
       have HRND:Hid (∀k,k<L->∃ (y:Int) (g1 g2:Nat),a1=some ⟨g1,0,none⟩/\a2=some ⟨g2,0,none⟩/\(∀w',Below w5.heap.size w5 w'->w'.cell? ⟨g1,k,none⟩=some (.int .i64 y)/\w'.cell? ⟨g2,k,none⟩=some (.int .i64 y))/\∀ w',Below w5.heap.size w5 w'->Calls Tryz.prog 21 #[.pointer (some ⟨s,0,none⟩),.int .i64 y] w' fun e w''=>e = .returned (.bool true)/\Below w'.heap.size w' w''):=h_ fun k hk=>by
        obtain ⟨g1,e1,d1⟩:=hC1 k (by rw[hz];exact hk)
        obtain ⟨g2,e2,d2⟩:=hC2 k (by rw[hz];exact hk)
        refine ⟨_,g1,g2,e1,e2,fun w' hb'=>⟨(hb'.cell (block_lt_of_cell d1)).trans d1,(hb'.cell (block_lt_of_cell d2)).trans d2⟩,fun w' hb'=>?_⟩
        have:=has_is (.inl ⟨bt,lp,rfl,hS5.below hb'⟩) (hTa5.below hb') HIN.out hM9 (zs m)[k]
        rwa [show isIn m (zs m)[k]=true by rw[zs_get,qev_];exact decide_eq_true (List.getElem_mem _)] at this
       have HB5:=h_ hB5
       have hb5:=Below.refl w5.heap.size w5
       clear hz hC1 hC2 hTa5 hS5 hB5 hb hr2 HL2 HC1 HTa4 HS4 HB4 KAll2
       go_wp2_with fail
       go_loopw [102] (fun u wr=>∃ k:Nat,k<=L/\u = .int .i64 (k:Int)/\Below w5.heap.size w5 wr) (fun u _=>L - (intOf u).toNat)
       case atStart=>exact ⟨0,by omega,rfl,hb5⟩
       case round=>
        clear hb5
        obtain ⟨k,hk,rfl,hb⟩:=hrel
        by_cases hltk:k<L
        ·obtain ⟨y,g1,g2,e1,e2,hc,KH0⟩:=HRND.out k hltk
         subst e1
         subst e2
         obtain ⟨d1,d2⟩:=hc _ hb
         have KH:=h_ KH0
         go_wp2_with fail
         have q1:∀ d os,(Sort.grow (redrawn wr d) os).cell? ⟨g1,k,none⟩=some (.int .i64 y):=cell_regrown d1
         have q2:∀ d os,(Sort.grow (redrawn wr d) os).cell? ⟨g2,k,none⟩=some (.int .i64 y):=cell_regrown d2
         have hRg:∀ d os,Below w5.heap.size w5 (Sort.grow (redrawn wr d) os):=fun d os=>hb.trans ((below_regrown wr d os).mono hb.size)
         have t1:(y != y)=false:=by simp
         clear d1 d2 hc KH0
         refine wp_region_quiet_below (by kernel_rfl) (by kernel_rfl) ?_
         repeat (first
          | go_big_quiet_step ((go_at_call 21;with_reducible exact Calls.regrown_of (KH.out _ (hRg _ _)))))
         refine wpQuiet_nil ?_
         intro v20 hw'
         have hb20:=qk_ v20 hw'
         replace hb:=tb_ hb hb20
         clear hw' hb20 q1 q2 hRg KH t1
         go_wp2_with fail
         go_roundw
         case rel=>exact ⟨k+1,by omega,by go_num,hb⟩
         case measure=>simp[intOf];omega
        ·obtain rfl:k=L:=by omega
         have hB:=tb_ HB5.out hb
         go_wp2_with fail
         go_ret
         exact ⟨rfl,hB⟩
theorem qqs_ (p:NN.Pr) (hp:p.ok) (h1:p.one) (t:Tl) (tt:p.tl=t.C) (ht:t.ok) (gs:List Gt) (cs:List Ck) (hgn:t.gn=gs.length) (hcn:t.cn=cs.length) (a:Option Addr) (ls:List Ac) (n c:Nat) (hn:n=ls.length) (hl:n<=4611686018427387904) (_:∀ x ∈ ls,-9223372036854775808<=x.now/\x.now<=9223372036854775807) (pa:Option Addr) (ps:List Int) (pn pc:Nat) (hpn:pn=ps.length) (hp64:∀ x ∈ ps,in64 x) (da:Option Addr) (dr:List Int) (dn dc:Nat) (hdn:dn=dr.length) (hd64:∀ x ∈ dr,in64 x) (w:World) (hT:Tab w) (hA:ActsAt w a ls) (hG:GatesAt w t.ga gs) (hC:ChecksAt w t.ca cs) (hO:OutI w (fun _=>False) pa ps) (hO2:OutI w (fun _=>False) da dr) :
  Ca_ 5 #[.agg (NN.prA p),.slice a n c,.slice pa pn pc,.slice da dn dc] w (.bool true):=by
 have KA:HK_ w 6 #[] (.bool true):=h_ fun w' hb=>alive15 w' (hT.below hb)
 have KG:∀ g,grt15 p t gs cs ls=g->HK_ w 7 #[.agg (NN.prA p),.slice a n c] (.bool g):=fun g hg=>h_ fun w' hb=>qqc_ p hp t tt ht gs cs hgn hcn ls n a c hn hl g hg w' (hA.below hb) (hG.below hb) (hC.below hb)
 cases hg:grt15 p t gs cs ls
 ·have KG1:=KG false hg
  unfold grt15 grtA at hg
  simp only[Bool.or_eq_false_iff,decide_eq_false_iff_not,Bool.not_eq_false'] at hg
  obtain ⟨⟨⟨⟨hg0,hg1⟩,hg2⟩,hg3⟩,hr⟩:=hg
  have hiv:2<=p.ivl:=by
   unfold ruleP NN.Pr.good at hr
   simp only[Bool.and_eq_true,decide_eq_true_eq] at hr
   exact hr.1.1.1.1.1.1.1.1.2
  have HA:=h_ fun w' (hb:Below w.heap.size w w')=>hA.below hb
  have HT:=h_ fun w' (hb:Below w.heap.size w w')=>hT.below hb
  have HGG:Hid (gs.length<=1000/\cs.length<=1000/\2<=p.ivl):=h_ ⟨by omega,by omega,hiv⟩
  have KN:Hid (∀w',Below w.heap.size w w'->Calls Tryz.prog 8 #[.agg (NN.prA p),.int .i64 100] w' fun e w''=>∃ b F,e = .returned (.tuple #[.pointer (some ⟨b,0,none⟩),.int .i64 0])/\TrS w'' F b ⟨p,t.g,gs,cs,100⟩ [entZ] [-1]/\(∀i,F i->w'.heap.size<=i)/\Below w'.heap.size w' w''):=h_ fun w' hb=>qqe_ p hp h1 t tt ht gs cs hgn hcn (by omega) (by omega) 100 hr w' (hT.below hb) (hG.below hb) (hC.below hb)
  by_cases hlong:20<pn
  ·exact grp3_.2.1 p hp a n c w pa pn pc da dn dc (decide_eq_true (by omega)) KA KG1
  ·by_cases hlong2:20<dn
   ·exact grp3_.2.2 p hp a n c w pa pn pc da dn dc (decide_eq_false (by omega)) (decide_eq_true (by omega)) KA KG1
   ·exact qqr_ p hp ⟨p,t.g,gs,cs,100⟩ a n c w pa pn pc da dn dc ps dr (h_ hpn) (h_ hdn) (by omega) (by omega) (h_ hp64) (h_ hd64) (decide_eq_false (by omega)) (decide_eq_false (by omega)) (h_ fun w' hb G hG=>hO.below hb hG) (h_ fun w' hb G hG=>hO2.below hb hG) ls HA (h_ hn) (by omega) HT HGG KA KG1 KN
 ·have KG1:=KG true hg
  exact grp3_.1 p hp a n c w pa pn pc da dn dc KA KG1
end Go.Proofs.YtbgjiplfaolpjaaGreatDoor.An
