import Derived.Test.YtcppnfkjklhhdaaGreatDoorVIdm
import Derived.Test.YtcppnfkjklhhdaaGreatDoorVIdq
import Derived.Test.YtcppnfkjklhhdaaGreatDoorVMem
import Derived.Laws.AppendOwn
import Derived.Test.YtcppnfkjklhhdaaGreatDoorProg
import Derived.Test.YtcppnfkjklhhdaaGreatDoorVBunQ29
set_option maxRecDepth 100000
set_option maxHeartbeats 4000000
namespace Go.Proofs.YtcppnfkjklhhdaaGreatDoor.An
open Go.RowKit Mem
theorem qet_ {w:World} {base:Nat} {T:TypeId} {size n:Nat} {v:Value} {xs:List Value} (h:w.ownsRow base T size v n xs):∀ k,v.ownBlock=some k->base<=k/\k<w.heap.size:=by
 intro k hk
 rcases h.2 with ⟨rfl,_⟩|⟨g,c,cur,rfl,hb,hg,_⟩
 ·cases hk
 ·have e:g=k:=Option.some.inj hk
  subst e
  exact ⟨hb,(Array.getElem?_eq_some_iff.1 hg).1⟩
theorem qbg_ {w w':World} {base B:Nat} {T:TypeId} {size n:Nat} {v:Value} {xs:List Value} (h:w.ownsRow base T size v n xs) (hb:Below B w w') (hB:w.heap.size<=B):w'.ownsRow base T size v n xs:=by
 refine ⟨h.1,h.2.elim .inl ?_⟩
 rintro ⟨g,c,cur,rfl,h1,h2,h3⟩
 exact .inr ⟨g,c,cur,rfl,h1,(hb.block g (Nat.lt_of_lt_of_le (Array.getElem?_eq_some_iff.1 h2).1 hB)).trans h2,h3⟩
theorem app_el {Ts T:TypeId} {size bytes:Nat} (hu:Tryz.prog.underlying Ts=some (.slice T)) (hinf:∃ i z,Tryz.prog.info? T=some i/\i.zero=some z/\i.size=size/\i.bytes=bytes/\z.cells.size=size) (h4:1001*bytes<=140737488355328) (h5:0<size)
  {w:World} {ops:Array Oper} {rest:List Oper} {o:Oper} {a:Act} {Q:Exit->Act->World->Prop} (hgd:o.guard=none) (s x:Operand) (ho:o.op = .call { callee:=.builtin .append,args:=#[s,x],argTypes:=#[Ts,Ts] })
  (base:Nat) (v:Value) (n:Nat) (xs cs:List Value) (hs:a.eval s=v) (hown:w.ownsRow base T size v n xs) (g:Nat) (hx:a.eval x = .slice (some ⟨g,0,none⟩) 1 1) (hg:w.rangeAt g 0 cs) (hcs:cs.length=size) (hone:∀ u ∈ cs,u.oneCell'=true) (hn:n<=1000) (hbase:base<=w.heap.size)
  (h:∀ v' w',w'.ownsRow base T size v' (n+1) (xs ++ cs)->Below base w w'->wpList Tryz.prog ops Q rest (a.put o.dst v') w'):wpList Tryz.prog ops Q (o :: rest) a w:=by
 obtain ⟨i,y,hi,hz,h1,h2,h3⟩:=hinf
 refine wpList_append_own _ hgd s x Ts ho base T i y size bytes hu hi hz h1 h2 h3 h5 v n _ hs hown ⟨g,0,none⟩ 1 1 cs hx (by omega) (fun j u hj=>?_) hone (by unfold maxLen;omega) (Nat.le_trans (Nat.mul_le_mul_right _ (by omega)) h4) hbase (fun v' w' q1 q2 _=>h v' w' q1 ((Below.refl base w).grown q2 hbase fun k hk=>(qet_ hown k hk).1))
 rw[Addr.add_lit]
 exact hg j u hj
theorem int_inf:∃ i z,Tryz.prog.info? 3=some i/\i.zero=some z/\i.size=1/\i.bytes=8/\z.cells.size=1:=by
 have h1:(Tryz.prog.info? 3).map (·.size)=some 1:=by kernel_rfl
 have h2:((Tryz.prog.info? 3).bind (·.zero))=some (.int .i64 0):=by kernel_rfl
 have h3:(Tryz.prog.info? 3).map (·.bytes)=some 8:=by kernel_rfl
 cases hi:Tryz.prog.info? 3 with
 | none=>rw[hi] at h1;cases h1
 | some i=>
  rw[hi] at h1 h2 h3
  exact ⟨i,.int .i64 0,rfl,by simpa using h2,by simpa using h1,by simpa using h3,rfl⟩
def natC (l:List Nat):List Value:=l.map fun (x:Nat)=>Value.int .i64 (x:Int)
theorem qzc_ (l:List Nat) (x:Nat):natC (l ++ [x])=natC l ++ [Value.int .i64 (x:Int)]:=by simp[natC]
theorem qhl_ {w:World} {ops:Array Oper} {rest:List Oper} {o:Oper} {a:Act} {Q:Exit->Act->World->Prop} (hgd:o.guard=none) (s x:Operand) (ho:o.op = .call { callee:=.builtin .append,args:=#[s,x],argTypes:=#[42,42] })
  (base:Nat) (v:Value) (n:Nat) (l:List Nat) (hs:a.eval s=v) (hown:w.ownsRow base 3 1 v n (natC l)) (g z:Nat) (hx:a.eval x = .slice (some ⟨g,0,none⟩) 1 1) (hg:w.cell? ⟨g,0,none⟩=some (.int .i64 (z:Int))) (hn:n<=1000) (hbase:base<=w.heap.size)
  (h:∀ v' w',w'.ownsRow base 3 1 v' (n+1) (natC (l ++ [z]))->Below base w w'->wpList Tryz.prog ops Q rest (a.put o.dst v') w'):wpList Tryz.prog ops Q (o :: rest) a w :=
 app_el Tryz.underlying42 int_inf (by decide) (by decide) hgd s x ho base v n _ [.int .i64 (z:Int)] hs hown g hx (fun j u hj=>by
  match j,hj with
  | 0,hj=>rw[Nat.zero_add,hg];exact hj
  | j+1,hj=>simp at hj) rfl (fun u hu=>by
  obtain rfl:u = .int .i64 (z:Int):=by simpa using hu
  rfl) hn hbase fun v' w' q1 q2=>h v' w' (by rw[qzc_];exact q1) q2
theorem nat_at {w:World} {v:Value} {l:List Nat} {base n:Nat} (h:w.ownsRow base 3 1 v n (natC l)) {k x:Nat} (hx:l[k]?=some x):∃ g c,v = .slice (some ⟨g,0,none⟩) n c/\base<=g/\w.cell? ⟨g,k,none⟩=some (.int .i64 (x:Int)):=by
 have hk:=(List.getElem?_eq_some_iff.1 hx).1
 obtain ⟨hlen,⟨rfl,hm0⟩|⟨g2,c,cur,rfl,q1,q2,q3,q4,q5,q6⟩⟩:=h
 ·simp[natC] at hlen;omega
 ·refine ⟨g2,c,rfl,q1,?_⟩
  have e:(cur.toList.take (n*1))[k]?=some (Value.int .i64 (x:Int)):=by rw[q6];unfold natC;rw[List.getElem?_map,hx];rfl
  rw[Has.cell (show Has w g2 cur 3 from q2),<-Array.getElem?_toList]
  rw[List.getElem?_take] at e
  split at e
  ·exact e
  ·cases e
theorem qan_ {w:World} {base:Nat} {T:TypeId} {size n:Nat} {v:Value} {xs:List Value} (h:w.ownsRow base T size v n xs):∃ p c,v = .slice p n c/\n<=c:=by
 rcases h.2 with ⟨rfl,rfl⟩|⟨g,c,cur,rfl,_,_,h3,_⟩
 ·exact ⟨none,0,rfl,Nat.le_refl _⟩
 ·exact ⟨_,c,rfl,h3⟩
theorem qgh_ (w:World) (z:Int):(Instr.buildSlice 42 1 #[(0,.int .i64 z)]).run Tryz.prog w = .ok (.slice (some ⟨w.heap.size,0,none⟩) 1 1) (w.alloc (.cells #[.int .i64 z] 3)):=by kernel_rfl
end Go.Proofs.YtcppnfkjklhhdaaGreatDoor.An
namespace Go.Proofs.YtcppnfkjklhhdaaGreatDoor.An
open Go.RowKit Mem Ht
def NatsAt (w w':World) (v:Value) (l:List Nat):Prop:=w'.ownsRow w.heap.size 3 1 v l.length (natC l)/\l.length<=60
theorem qkw_ (f:Nat) (hf:f<=1099511627776) (w:World):Calls Tryz.prog 23 #[.int .i64 (f:Int)] w fun e w'=>∃ v,e = .returned v/\NatsAt w w' v (hts 0 f)/\Below w.heap.size w w':=by
 have hB:=Below.refl w.heap.size w
 have hS:=Lo.start f
 have t1:¬f<0:=by omega
 go_enter Tryz.func23,Tryz.ntmps23
 go_wp2_with fail
 go_loopw [3,4,5] (fun v s h wr=>∃ (n sN:Nat) (hh:Int) (P:List Nat),n<=51/\-2199023255552<=hh/\hh<=1099511627776/\s = .int .i64 (sN:Int)/\h = .int .i64 hh/\Hid (Lo f P n hh sN/\sN<=2199023255552)/\wr.ownsRow w.heap.size 3 1 v n (natC P)/\Below w.heap.size w wr) (fun _ _ h _=>(intOf h).toNat)
 case atStart=>exact ⟨0,1,(f:Int),[],by omega,by omega,by omega,rfl,rfl,h_ ⟨hS,by omega⟩,World.ownsRow_nil _ _ _ _,hB⟩
 case round=>
  clear hB hS t1
  obtain ⟨n,sN,hh,P,hn,hlo,hhi,rfl,rfl,HL,hR,hB⟩:=hrel
  obtain ⟨p,c,rfl,hc⟩:=qan_ hR
  by_cases h0:0<hh
  ·obtain ⟨q,rfl⟩:=Int.eq_ofNat_of_zero_le (by omega:0<=hh)
   have hsm:=HL.out.1.small h0 hf
   obtain ⟨t,ht⟩:∃ t,t=if 11<=n+1 then sN*2 else sN:=⟨_,rfl⟩
   have hnx:=HL.out.1.next h0 ht
   have ht0:0<t:=by rw[hnx.step];exact Nat.pow_pos (by decide)
   rw[Int.toNat_natCast] at hnx
   have hmk:=fun w=>qgh_ w (q:Int)
   have hb1:Below w.heap.size w (wr.alloc (.cells #[.int .i64 (q:Int)] 3)):=hB.alloc hB.size _
   have hb1':Below wr.heap.size wr (wr.alloc (.cells #[.int .i64 (q:Int)] 3)):=(Below.refl _ _).alloc (Nat.le_refl _) _
   have hR1:=qbg_ hR hb1' (Nat.le_refl _)
   have hz1:(wr.alloc (.cells #[.int .i64 (q:Int)] 3)).cell? ⟨wr.heap.size,0,none⟩=some (.int .i64 (q:Int)):=Has.cell (Has.new _ _) 0
   have hn9:n<=1000:=by omega
   have hbs:=hb1.size
   have hqd:q<=1099511627776:=by omega
   obtain ⟨dd,hdd⟩:∃ dd:Int,dd=(q:Int) - (t:Int):=⟨_,rfl⟩
   rw[<-hdd] at hnx
   have hs1:IntKind.i64.wrap ((q:Int) - (t:Int))=dd:=by
    have:t<=2199023255552:=by rw[ht];split <;> omega
    rw[IntKind.wrap_i64];omega
   have HX:Hid (Lo f (P ++ [q]) (n+1) dd t/\t<=2199023255552/\-2199023255552<=dd/\dd<=1099511627776/\dd<(q:Int)):=h_ ⟨hnx,by rw[ht];split <;> omega,by have:t<=2199023255552:=(by rw[ht];split <;> omega);omega,by omega,by omega⟩
   have HS:=h_ hsm
   clear hsm hnx ht0 HL hR hb1' hdd hlo hhi hqd
   by_cases h11:10<=n
   ·have tw:IntKind.i64.wrap ((sN:Int)*2)=(t:Int):=by
     have:=HX.out.2.1
     rw[ht,if_pos (by omega)] at this |-
     rw[IntKind.wrap_i64];omega
    have t3:decide ((11:Int)<=(n:Int)+1)=true:=decide_eq_true (by omega)
    clear ht
    go_wp2_with ((with_reducible refine qhl_ rfl _ _ rfl w.heap.size (.slice p n c) n P rfl hR1 wr.heap.size q rfl hz1 hn9 hbs ?_);intro v2 w2 hR2 hb2;obtain ⟨p2,c2,rfl,hc2⟩:=qan_ hR2)
    go_roundw
    case rel=>exact ⟨n+1,t,dd,P ++ [q],by have:=HS.out.1;omega,HX.out.2.2.1,HX.out.2.2.2.1,rfl,rfl,h_ ⟨HX.out.1,HX.out.2.1⟩,hR2,hb1.trans hb2⟩
    case measure=>have:=HX.out.2.2.2.2;simp[intOf];omega
   ·obtain rfl:t=sN:=by rw[ht,if_neg (by omega)]
    have t3:decide ((11:Int)<=(n:Int)+1)=false:=decide_eq_false (by omega)
    clear ht
    go_wp2_with ((with_reducible refine qhl_ rfl _ _ rfl w.heap.size (.slice p n c) n P rfl hR1 wr.heap.size q rfl hz1 hn9 hbs ?_);intro v2 w2 hR2 hb2;obtain ⟨p2,c2,rfl,hc2⟩:=qan_ hR2)
    go_roundw
    case rel=>exact ⟨n+1,t,dd,P ++ [q],by have:=HS.out.1;omega,HX.out.2.2.1,HX.out.2.2.2.1,rfl,rfl,h_ ⟨HX.out.1,HX.out.2.1⟩,hR2,hb1.trans hb2⟩
    case measure=>have:=HX.out.2.2.2.2;simp[intOf];omega
  ·have HE:=h_ (HL.out.1.done (by omega))
   have t0:decide (0<hh)=false:=decide_eq_false h0
   have hmk:=fun w=>qgh_ w 0
   have hb1:Below w.heap.size w (wr.alloc (.cells #[.int .i64 (0:Int)] 3)):=hB.alloc hB.size _
   have hb1':Below wr.heap.size wr (wr.alloc (.cells #[.int .i64 (0:Int)] 3)):=(Below.refl _ _).alloc (Nat.le_refl _) _
   have hR1:=qbg_ hR hb1' (Nat.le_refl _)
   have hz1:(wr.alloc (.cells #[.int .i64 (0:Int)] 3)).cell? ⟨wr.heap.size,0,none⟩=some (.int .i64 ((0:Nat):Int)):=Has.cell (Has.new _ _) 0
   have hn9:n<=1000:=by omega
   have hbs:=hb1.size
   have HLN:=h_ HL.out.1.len
   clear HL hR hb1' h0 hlo hhi
   go_wp2_with ((with_reducible refine qhl_ rfl _ _ rfl w.heap.size (.slice p n c) n P rfl hR1 wr.heap.size 0 rfl hz1 hn9 hbs ?_);intro v2 w2 hR2 hb2;obtain ⟨p2,c2,rfl,hc2⟩:=qan_ hR2)
   go_ret
   rw[HE.out] at hR2
   have e:(hts 0 f).length=n+1:=by rw[<-HE.out,List.length_append,HLN.out];rfl
   exact ⟨_,rfl,⟨by rw[e];exact hR2,by rw[e];omega⟩,hb1.trans hb2⟩
theorem qqn_ (f:Nat) (hf:f<=1099511627776) (w:World):Calls Tryz.prog 32 #[.int .i64 (f:Int)] w fun e w'=>∃ v,e = .returned v/\NatsAt w w' v (hts 0 f)/\Below w.heap.size w w':=by
 have hB:=Below.refl w.heap.size w
 have hS:=Lo.start f
 have HF:Hid (f=0\/0<f):=h_ (by omega)
 go_enter Tryz.func32,Tryz.ntmps32
 go_wp2_with fail
 go_loopw [3,4,5] (fun v h s wr=>∃ (n sN:Nat) (hh:Int) (P:List Nat),n<=51/\-2199023255552<=hh/\hh<=1099511627776/\s = .int .i64 (sN:Int)/\h = .int .i64 hh/\Hid (Lo f P n hh sN/\sN<=2199023255552/\(hh<0->0<f))/\wr.ownsRow w.heap.size 3 1 v n (natC P)/\Below w.heap.size w wr) (fun _ h _ _=>(intOf h).toNat)
 case atStart=>exact ⟨0,1,(f:Int),[],by omega,by omega,by omega,rfl,rfl,h_ ⟨hS,by omega,by omega⟩,World.ownsRow_nil _ _ _ _,hB⟩
 case round=>
  clear hB hS
  obtain ⟨n,sN,hh,P,hn,hlo,hhi,rfl,rfl,HL,hR,hB⟩:=hrel
  obtain ⟨p,c,rfl,hc⟩:=qan_ hR
  by_cases hneg:hh<0
  ·have HE:=h_ (HL.out.1.done (by omega))
   have hf0:=HL.out.2.2 hneg
   have t0:decide (0<=hh)=false:=decide_eq_false (by omega)
   have hmk:=fun w=>qgh_ w 0
   have hb1:Below w.heap.size w (wr.alloc (.cells #[.int .i64 (0:Int)] 3)):=hB.alloc hB.size _
   have hb1':Below wr.heap.size wr (wr.alloc (.cells #[.int .i64 (0:Int)] 3)):=(Below.refl _ _).alloc (Nat.le_refl _) _
   have hR1:=qbg_ hR hb1' (Nat.le_refl _)
   have hz1:(wr.alloc (.cells #[.int .i64 (0:Int)] 3)).cell? ⟨wr.heap.size,0,none⟩=some (.int .i64 ((0:Nat):Int)):=Has.cell (Has.new _ _) 0
   have hn9:n<=1000:=by omega
   have hbs:=hb1.size
   have HLN:=h_ HL.out.1.len
   clear HL hR hb1' hneg hlo hhi
   go_wp2_with ((with_reducible refine qhl_ rfl _ _ rfl w.heap.size (.slice p n c) n P rfl hR1 wr.heap.size 0 rfl hz1 hn9 hbs ?_);intro v2 w2 hR2 hb2;obtain ⟨p2,c2,rfl,hc2⟩:=qan_ hR2)
   go_ret
   rw[HE.out] at hR2
   have e:(hts 0 f).length=n+1:=by rw[<-HE.out,List.length_append,HLN.out];rfl
   exact ⟨_,rfl,⟨by rw[e];exact hR2,by rw[e];omega⟩,hb1.trans hb2⟩
  ·obtain ⟨q,rfl⟩:=Int.eq_ofNat_of_zero_le (by omega:0<=hh)
   have hmk:=fun w=>qgh_ w (q:Int)
   have hb1:Below w.heap.size w (wr.alloc (.cells #[.int .i64 (q:Int)] 3)):=hB.alloc hB.size _
   have hb1':Below wr.heap.size wr (wr.alloc (.cells #[.int .i64 (q:Int)] 3)):=(Below.refl _ _).alloc (Nat.le_refl _) _
   have hR1:=qbg_ hR hb1' (Nat.le_refl _)
   have hz1:(wr.alloc (.cells #[.int .i64 (q:Int)] 3)).cell? ⟨wr.heap.size,0,none⟩=some (.int .i64 (q:Int)):=Has.cell (Has.new _ _) 0
   have hn9:n<=1000:=by omega
   have hbs:=hb1.size
   by_cases hq0:q=0
   ·have HE:=h_ (by have:=HL.out.1;rw[hq0] at this;exact this.zero)
    have tq:((q:Int)==0)=true:=by simp[hq0]
    have HQ:=h_ hq0
    have HLN:=h_ HL.out.1.len
    clear HL hR hb1' hneg hlo hhi hq0
    go_wp2_with ((with_reducible refine qhl_ rfl _ _ rfl w.heap.size (.slice p n c) n P rfl hR1 wr.heap.size q rfl hz1 hn9 hbs ?_);intro v2 w2 hR2 hb2;obtain ⟨p2,c2,rfl,hc2⟩:=qan_ hR2)
    go_ret
    rw[HQ.out,HE.out] at hR2
    have e:(hts 0 f).length=n+1:=by rw[<-HE.out,List.length_append,HLN.out];rfl
    exact ⟨_,rfl,⟨by rw[e];exact hR2,by rw[e];omega⟩,hb1.trans hb2⟩
   ·have h0:(0:Int)<(q:Int):=by omega
    have hsm:=HL.out.1.small h0 hf
    obtain ⟨t,ht⟩:∃ t,t=if 11<=n+1 then sN*2 else sN:=⟨_,rfl⟩
    have hnx:=HL.out.1.next h0 ht
    have ht0:0<t:=by rw[hnx.step];exact Nat.pow_pos (by decide)
    rw[Int.toNat_natCast] at hnx
    have hqd:q<=1099511627776:=by omega
    have hqf:q<=f:=by have:=HL.out.1.low;omega
    obtain ⟨dd,hdd⟩:∃ dd:Int,dd=(q:Int) - (t:Int):=⟨_,rfl⟩
    rw[<-hdd] at hnx
    have hs1:IntKind.i64.wrap ((q:Int) - (t:Int))=dd:=by
     have:t<=2199023255552:=by rw[ht];split <;> omega
     rw[IntKind.wrap_i64];omega
    have tq:((q:Int)==0)=false:=by simp;omega
    have HX:Hid (Lo f (P ++ [q]) (n+1) dd t/\t<=2199023255552/\-2199023255552<=dd/\dd<=1099511627776/\dd<(q:Int)/\0<f/\0<q):=h_ ⟨hnx,by rw[ht];split <;> omega,by have:t<=2199023255552:=(by rw[ht];split <;> omega);omega,by omega,by omega,by omega,by omega⟩
    have HS:=h_ hsm
    clear hsm hnx ht0 HL hR hb1' hdd hlo hhi hqd hqf hneg hq0 h0
    by_cases h11:10<=n
    ·have tw:IntKind.i64.wrap ((sN:Int)*2)=(t:Int):=by
      have:=HX.out.2.1
      rw[ht,if_pos (by omega)] at this |-
      rw[IntKind.wrap_i64];omega
     have t3:decide ((11:Int)<=(n:Int)+1)=true:=decide_eq_true (by omega)
     clear ht
     go_wp2_with ((with_reducible refine qhl_ rfl _ _ rfl w.heap.size (.slice p n c) n P rfl hR1 wr.heap.size q rfl hz1 hn9 hbs ?_);intro v2 w2 hR2 hb2;obtain ⟨p2,c2,rfl,hc2⟩:=qan_ hR2)
     go_roundw
     case rel=>exact ⟨n+1,t,dd,P ++ [q],by have:=HS.out.1;omega,HX.out.2.2.1,HX.out.2.2.2.1,rfl,rfl,h_ ⟨HX.out.1,HX.out.2.1,fun _=>HX.out.2.2.2.2.2.1⟩,hR2,hb1.trans hb2⟩
     case measure=>have:=HX.out.2.2.2.2.1;have:=HX.out.2.2.2.2.2.2;simp[intOf];omega
    ·obtain rfl:t=sN:=by rw[ht,if_neg (by omega)]
     have t3:decide ((11:Int)<=(n:Int)+1)=false:=decide_eq_false (by omega)
     clear ht
     go_wp2_with ((with_reducible refine qhl_ rfl _ _ rfl w.heap.size (.slice p n c) n P rfl hR1 wr.heap.size q rfl hz1 hn9 hbs ?_);intro v2 w2 hR2 hb2;obtain ⟨p2,c2,rfl,hc2⟩:=qan_ hR2)
     go_roundw
     case rel=>exact ⟨n+1,t,dd,P ++ [q],by have:=HS.out.1;omega,HX.out.2.2.1,HX.out.2.2.2.1,rfl,rfl,h_ ⟨HX.out.1,HX.out.2.1,fun _=>HX.out.2.2.2.2.2.1⟩,hR2,hb1.trans hb2⟩
     case measure=>have:=HX.out.2.2.2.2.1;have:=HX.out.2.2.2.2.2.2;simp[intOf];omega
end Go.Proofs.YtcppnfkjklhhdaaGreatDoor.An
namespace Go.Proofs.YtcppnfkjklhhdaaGreatDoor.An
open Go.RowKit Mem Ht
theorem hts3:hts 0 3=[3,2,1,0]:=by decide
theorem alive14 (w:World):Ca_ 7 #[] w (.bool true):=by
 go_enter Tryz.func7,Tryz.ntmps7
 go_wp2_with fail
 refine (qkw_ 3 (by decide) _).mono ?_
 rintro e v1 ⟨v,rfl,hN,hB⟩
 unfold NatsAt at hN
 rw[hts3] at hN
 obtain ⟨g,c,rfl,_,c0⟩:=nat_at hN.1 (k:=0) (x:=3) rfl
 obtain ⟨g2,c2,e2,_,c3⟩:=nat_at hN.1 (k:=3) (x:=0) rfl
 cases e2
 clear hN
 go_wp2_with fail
 go_ret
 exact ⟨rfl,hB⟩
end Go.Proofs.YtcppnfkjklhhdaaGreatDoor.An
