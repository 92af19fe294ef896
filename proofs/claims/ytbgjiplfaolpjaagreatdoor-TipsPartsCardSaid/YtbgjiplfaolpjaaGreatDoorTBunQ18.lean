import Derived.Test.YtbgjiplfaolpjaaGreatDoorTIdm
import Derived.Test.YtbgjiplfaolpjaaGreatDoorTBunQ12
import Derived.Test.YtbgjiplfaolpjaaGreatDoorTBunQ17
set_option maxRecDepth 100000
set_option maxHeartbeats 4000000
namespace Go.Proofs.YtbgjiplfaolpjaaGreatDoor
open Go.RowKit Mem Sc Sha
theorem qrg_ (h:Hd) (ho:h.ok) (hp:h.P) (w:World) :
  Ca_ 93 #[.agg (hdA h)] w (.tuple #[.string (txt h.enc),.int .i64 0]):=by
 have CG:=qeg_ h ho
 rw[decide_eq_true hp] at CG
 have KG:=h_ CG
 have KW:=h_ (fun b v l w hP hsz=>qvy_ b v l h ho w hP hsz)
 rw[Hd.wr_yes hp] at KW
 clear CG hp
 have hH:=hd_new w h
 have hB:Below w.heap.size w (w.alloc (.cells (hdA h) 30)):=(Below.refl _ _).alloc (Nat.le_refl _) _
 have hz:=qah_ ho
 go_enter Tryz.func93,Tryz.ntmps93
 go_upto_region 1 with fail
 generalize World.alloc _ _=w1 at *
 go_wp2_with (with_reducible refine qav_ rfl _ rfl _ rfl hH hz ?_)
 refine (KG.out _).mono ?_
 rintro r w2 ⟨rfl,hb2⟩
 replace hB:=tb_ hB hb2
 replace hH:=hH.on hb2
 clear hb2 KG
 go_upto_region 4 with fail
 have hN:=pen_new w2
 have hpk:w.heap.size<=w2.heap.size:=hB.size
 have hb3:Below w2.heap.size w2 (w2.alloc (.cells #[.slice none 0 0] 165)):=(Below.refl _ _).alloc (Nat.le_refl _) _
 replace hB:=tb_ hB hb3
 replace hH:=hH.on hb3
 generalize World.alloc _ _=w3 at *
 generalize w2.heap.size=p at *
 clear hb3
 go_wp2_with (with_reducible refine qav_ rfl _ rfl _ rfl hH hz ?_)
 refine (KW.out _ _ _ _ hN (by simp)).mono ?_
 rintro r w4 ⟨v4,rfl,hP4,hS4⟩
 have hB4:=qrd_ hB hpk hN hS4
 rw[List.nil_append] at hP4
 clear KW hN hS4 hB hH
 go_wp2_with fail
 refine (qvt_ _ _ _ _ hP4).mono ?_
 rintro r w5 ⟨rfl,rfl⟩
 go_wp2_with fail
 go_ret2
 exact ⟨rfl,hB4⟩
theorem qvz_ (h:Hd) (ho:h.ok) (hp:¬h.P) (w:World) :
  Ca_ 93 #[.agg (hdA h)] w (.tuple #[.string E0,.int .i64 1]):=by
 have CG:=qeg_ h ho
 rw[decide_eq_false hp] at CG
 have KG:=h_ CG
 clear CG hp
 have hH:=hd_new w h
 have hB:Below w.heap.size w (w.alloc (.cells (hdA h) 30)):=(Below.refl _ _).alloc (Nat.le_refl _) _
 have hz:=qah_ ho
 go_enter Tryz.func93,Tryz.ntmps93
 go_upto_region 1 with fail
 generalize World.alloc _ _=w1 at *
 go_wp2_with (with_reducible refine qav_ rfl _ rfl _ rfl hH hz ?_)
 refine (KG.out _).mono ?_
 rintro r w2 ⟨rfl,hb2⟩
 replace hB:=tb_ hB hb2
 go_wp2_with fail
 go_ret2
 exact ⟨rfl,hB⟩
theorem qng_ (l:List UInt8):(sha l).length=32:=qo_ _
theorem qx_ (h:Hd):h.id.length=32:=by
 unfold Hd.id
 split
 ·exact qng_ _
 ·rfl
theorem id_yes (h:Hd) (ho:h.ok) (hp:h.P) (w:World) (hT:Tab w) :
  Ca_ 59 #[.agg (hdA h)] w (.agg (bytesV h.id)):=by
 have KB:=h_ (qrg_ h ho hp)
 have c1:∀ a w,Tab w->PartsW w a [txt h.enc]->Ca_ 94 #[.slice a 1 1] w (.agg (bytesV h.id)):=fun a w hT hP=>by
  have:=double a [txt h.enc] 1 1 rfl w hT (by rw[qcu_,qmx_,Hd.enc_length ho];omega) (by omega) hP
  rwa [qcu_,qmx_,<-Hd.id_yes hp] at this
 have KD:=h_ c1
 have hsz:=qgs_ (qx_ h)
 have hone:=qaf_ h.id
 generalize txt h.enc=s at *
 generalize bytesV h.id=cs at *
 have HSZ:=h_ hsz
 have hz:=qah_ ho
 clear c1 hp hsz
 go_enter Tryz.func59,Tryz.ntmps59
 go_upto_region 1 with fail
 generalize hw1:World.alloc _ _=w1
 have hH:HdAt w1 w.heap.size h:=by rw[<-hw1];exact (hd_new w h).on ((Below.refl _ _).alloc (Nat.le_refl _) _)
 have hR:Has w1 (w.heap.size+1) h0 28:=by rw[<-hw1];exact Has.new1 _ h0 _
 have hB:Below w.heap.size w w1:=by rw[<-hw1];exact ((Below.refl _ _).alloc (Nat.le_refl _) _).alloc (by simp) _
 clear hw1
 have hT1:=hT.below hB
 go_wp2_with (with_reducible refine qav_ rfl _ rfl _ rfl hH hz ?_)
 refine (KB.out _).mono ?_
 rintro r w2 ⟨rfl,hb2⟩
 replace hR:=qd_ hb2 hR hR.lt
 replace hT1:=hT1.below hb2
 replace hB:=tb_ hB hb2
 clear hb2 KB hH hT
 go_wp2_with fail
 have hb3:Below w2.heap.size w2 (w2.alloc (.cells #[.string s] 9)):=(Below.refl _ _).alloc (Nat.le_refl _) _
 refine (KD.out _ _ (hT1.below hb3) (PartsW.one (by simp))).mono ?_
 rintro r w4 ⟨rfl,hb4⟩
 replace hR:=qd_ hb4 (qd_ hb3 hR hR.lt) (Has.lt (qd_ hb3 hR hR.lt))
 replace hB:=(tb_ hB hb3).trans (hb4.mono (Nat.le_trans hB.size hb3.size))
 have h0s:h0.size=32:=rfl
 have HZ:=h_ h0s
 clear h0s hT1 KD hb3 hb4
 go_wp2_with (with_reducible refine qbz_ rfl _ _ rfl _ _ cs rfl rfl rfl HSZ.out hone h0 hR HZ.out ?_)
 exact bodyPost_ret (v:=.agg cs) (qgr_ Tryz.results59 _ _ _ rfl (hR.row _) HSZ.out) rfl ⟨rfl,below_setRow hB (by omega) _⟩
theorem id_no (h:Hd) (ho:h.ok) (hp:¬h.P) (w:World) :
  Ca_ 59 #[.agg (hdA h)] w (.agg (bytesV h.id)):=by
 have KB:=h_ (qvz_ h ho hp)
 have hcs:bytesV h.id=h0:=by rw[Hd.id_no hp];rfl
 rw[hcs]
 have hz:=qah_ ho
 clear hp hcs
 go_enter Tryz.func59,Tryz.ntmps59
 go_upto_region 1 with fail
 generalize hw1:World.alloc _ _=w1
 have hH:HdAt w1 w.heap.size h:=by rw[<-hw1];exact (hd_new w h).on ((Below.refl _ _).alloc (Nat.le_refl _) _)
 have hR:Has w1 (w.heap.size+1) h0 28:=by rw[<-hw1];exact Has.new1 _ h0 _
 have hB:Below w.heap.size w w1:=by rw[<-hw1];exact ((Below.refl _ _).alloc (Nat.le_refl _) _).alloc (by simp) _
 clear hw1
 go_wp2_with (with_reducible refine qav_ rfl _ rfl _ rfl hH hz ?_)
 refine (KB.out _).mono ?_
 rintro r w2 ⟨rfl,hb2⟩
 replace hR:=qd_ hb2 hR hR.lt
 replace hB:=tb_ hB hb2
 have h0s:h0.size=32:=rfl
 have HZ:=h_ h0s
 have hone:h0.all (·.oneCell')=true:=qaf_ _
 clear h0s hb2 KB hH
 go_wp2_with (with_reducible refine qbz_ rfl _ _ rfl _ _ h0 rfl rfl rfl HZ.out hone h0 hR HZ.out ?_)
 exact bodyPost_ret (v:=.agg h0) (qgr_ Tryz.results59 _ _ _ rfl (hR.row _) HZ.out) rfl ⟨rfl,below_setRow hB (by omega) _⟩
theorem id_at (h:Hd) (ho:h.ok) (w:World) (hT:Tab w) :
  Ca_ 59 #[.agg (hdA h)] w (.agg (bytesV h.id)):=by
 by_cases hp:h.P
 ·exact id_yes h ho hp w hT
 ·exact id_no h ho hp w
end Go.Proofs.YtbgjiplfaolpjaaGreatDoor
namespace Go.Proofs.YtbgjiplfaolpjaaGreatDoor
open Go.RowKit Mem Sc Sha
end Go.Proofs.YtbgjiplfaolpjaaGreatDoor
namespace Go.Proofs.YtbgjiplfaolpjaaGreatDoor
open Go.RowKit Mem Sc
theorem wp_hneq {o:Oper} {a:Act} {w:World} {K:Act->World->Prop} {Q:Exit->Act->World->Prop} (t':TypeId) (x y:Operand) (ho:o.op = .binOp .neq 28 x y t') (xs ys:Array Value) (v:Value) (hx:a.eval x = .agg xs) (hy:a.eval y = .agg ys)
  (hq:(binOp .neq 28 (.agg xs) (.agg ys)).run Tryz.prog w = .ok v w) (h:K (a.put o.dst v) w):o.wp Tryz.prog a w K Q:=by
 unfold Oper.wp execOp
 simp only[ho,hx,hy,Sem.run_bind,Sem.run_pure,run_eqGuard_agg w .neq 28 x y xs ys hplain,Result.andThen_ok,hq]
 exact h
theorem hneq_g {ops:Array Oper} {rest:List Oper} {o:Oper} {a:Act} {w:World} {Q:Exit->Act->World->Prop} (hw:Region.wanted o (yielded ops a.tmps)=true) (t':TypeId) (x y:Operand) (ho:o.op = .binOp .neq 28 x y t') (xs ys:Array Value) (v:Value) (hx:a.eval x = .agg xs) (hy:a.eval y = .agg ys)
  (hq:∀ w,(binOp .neq 28 (.agg xs) (.agg ys)).run Tryz.prog w = .ok v w) (h:wpList Tryz.prog ops Q rest (a.put o.dst v) w):wpList Tryz.prog ops Q (o :: rest) a w :=
 BigFrame.wpList_want hw fun _ hK=>wp_hneq t' x y ho xs ys v hx hy (hq w) (hK _ _ h)
def hd1:Hd:=⟨1,z32,z32,0,0,0⟩
end Go.Proofs.YtbgjiplfaolpjaaGreatDoor
