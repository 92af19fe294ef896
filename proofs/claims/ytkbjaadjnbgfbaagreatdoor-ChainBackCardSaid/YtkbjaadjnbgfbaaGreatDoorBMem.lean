import Derived.Test.YtkbjaadjnbgfbaaGreatDoorBIda
import Derived.Lib.Hide
import Derived.Lib.LazyBuf
import Derived.Lib.BufferWrite
import Derived.Laws.CopyOwn
import Derived.Deep.MidRow
import Derived.BigQuiet
import Derived.Test.YtkbjaadjnbgfbaaGreatDoorBBunQ0
set_option maxRecDepth 100000
set_option maxHeartbeats 4000000
namespace Go.Proofs.YtkbjaadjnbgfbaaGreatDoor.Mem
open Go.RowKit Sh
def Has(w:World)(b:Nat)(cs:Array Value)(t:TypeId):Prop:=w.heap[b]?=some (.cells cs t (0,0))
def words(f:Nat->cV)(n:Nat):Array Value:=((List.range n).map fun i=>Value.int .u32 (Wd.n (f i))).toArray
def ae(l:List UInt8):Array Value:=(l.map fun b=>Value.int .u8 (b.toNat:Int)).toArray
def bY(f:Nat->cV)(i:Nat)(x:cV):Nat->cV:=fun j=>if j=i then x else f j
theorem fh(f n):(words f n).size=n:=by simp[words]
theorem jH(l):(ae l).size=l.length:=by simp[ae]
theorem oT(f n j)(h:j<n):(words f n)[j]?=some (.int .u32 (Wd.n (f j))):=by simp[words,h]
theorem wE{f g:Nat->cV}{n:Nat}(h:∀j,j<n->f j=g j):words f n=words g n:=by unfold words;congr 1;exact List.map_congr_left fun i hi=>by rw[h i (by simpa using hi)]
theorem II(f n i x):(words f n).setIfInBounds i (.int .u32 (Wd.n x))=words (bY f i x) n:=by
 apply Array.ext_getElem?;intro j;rw[Array.getElem?_setIfInBounds];by_cases hj:j<n
 ·rw[oT _ _ _ hj];by_cases hij:i=j;subst hij;rw[oT _ _ _ hj];simp[fh,hj,bY]
  ·rw[if_neg hij,oT _ _ _ hj];have:j≠i:=fun e=>hij e.symm
   simp[bY,this]
 ·have h1:∀g,(words g n)[j]?=none:=fun g=>by simp[words];omega
  rw[h1,h1];by_cases hij:i=j;subst hij;simp[fh,hj];simp[hij]
variable{w w':World}
variable{b i g B:Nat}{cs:Array Value}{t:TypeId}
theorem Has.out(h:Has w b cs t):w.heap[b]?=some (.cells cs t (0,0)):=h
theorem Has.cell(h:Has w b cs t)(j:Nat):w.cell? ⟨b,j,none⟩=cs[j]?:=cell_of_row w b j cs t (0,0) h
theorem Has.word{f n}(h:Has w b (words f n) t)(j:Nat)(hj:j<n):w.cell? ⟨b,j,none⟩=some (.int .u32 (Wd.n (f j))):=(h.cell j).trans (oT f n j hj)
theorem Has.byte{l:List UInt8}(h:Has w b (ae l) t)(j:Nat)(hj:j<l.length):w.cell? ⟨b,j,none⟩=some (.int .u8 (l[j].toNat:Int)):=by rw[h.cell j];simp[ae,hj]
theorem Has.free(h:Has w b cs t)(j:Nat):w.frozen? ⟨b,j,none⟩=false:=frozen_of_row w b j cs t h
theorem Has.lt(h:Has w b cs t):b<w.heap.size:=by unfold Has at h;by_cases hb:b<w.heap.size;exact hb;simp[Array.getElem?_eq_none (by omega:w.heap.size<=b)]at h
theorem Has.drew(h:Has w b cs t):Has w.drew b cs t:=h
theorem Has.drewN(h:Has w b cs t)(n:Nat):Has (w.drewN n) b cs t:=by unfold Has at*;simpa using h
theorem Has.alloc(h:Has w b cs t)(o:Obj):Has (w.alloc o) b cs t:=by exact(heap_alloc_old w o h.lt).trans h
theorem Has.new(cs:Array Value)(t:TypeId):Has (w.alloc (.cells cs t)) w.heap.size cs t:=heap_alloc_new w _
theorem Has.set(h:Has w b cs t)(v:Value):Has (w.setCell ⟨b,i,none⟩ v) b (cs.setIfInBounds i v) t:=heap_setCell_same w b i cs t v h
theorem Has.other(h:Has w b cs t)(a:Addr)(v:Value)(ha:b≠a.block):Has (w.setCell a v) b cs t:=by exact(heap_setCell_other w a b v ha).trans h
theorem Has.R9{f n}(h:Has w b (words f n) t)(x:cV):Has (w.setCell ⟨b,i,none⟩ (.int .u32 (Wd.n x))) b (words (bY f i x) n) t:=by rw[<-II];exact h.set _
variable{P:Program}
theorem QC(t e n b l h:Nat)(hu:P.underlying t=some (.array n e))(hc:∀w,(sizeOf e).run P w=.ok 1 w)(h1:l<=h)(h2:h<=n)(h3:l<n)(w:World):(Instr.sliceAt t (af b) (some (i_ l)) (some (i_ h)) none).run P w=.ok (.slice (some ⟨b,l,none⟩) (h-l) (n-l)) w:=by
 have ha:P.arrayLen t=n:=by simp[Program.arrayLen,hu]
 have he:P.elem t=e:=by simp[Program.elem,hu]
 rw[run_sliceAt_array_lh w t ⟨b,0,none⟩ (by rw[ha,he];exact hu) .i64 .i64 l h (by omega) (by omega) (by rw[ha];omega),he,hc];simp only[Result.andThen_ok,ha,slicedAt,Int.toNat_natCast];rw[if_neg (by omega)];unfold Addr.add;by_cases hl:l=0;subst hl;rfl;simp[hl]
theorem Qv(k:IntKind)(t e n b l:Nat)(hu:P.underlying t=some (.array n e))(hc:∀w,(sizeOf e).run P w=.ok 1 w)(h3:l<n)(o:Nat)(w:World):(Instr.sliceAt t (.pointer (some ⟨b,o,none⟩)) (some (.int k (l:Int))) none none).run P w=.ok (.slice (some ⟨b,o+l,none⟩) (n-l) (n-l)) w:=by
 have ha:P.arrayLen t=n:=by simp[Program.arrayLen,hu]
 have he:P.elem t=e:=by simp[Program.elem,hu]
 rw[run_sliceAt_array_l w t ⟨b,o,none⟩ (by rw[ha,he];exact hu) k l (by omega) (by rw[ha];omega),he,hc];simp only[Result.andThen_ok,ha,slicedAt,Int.toNat_natCast];rw[if_neg (by omega)];unfold Addr.add;by_cases hl:l=0;subst hl;rfl;simp[hl]
theorem tu(f n):(words f n).all (·.oneCell')=true:=by rw[Array.all_eq_true_iff_forall_mem];intro v hv;simp[words]at hv;obtain⟨i,_,rfl⟩:=hv;rfl
theorem j6(l):(ae l).all (·.oneCell')=true:=by rw[Array.all_eq_true_iff_forall_mem];intro v hv;simp[ae]at hv;obtain⟨i,_,rfl⟩:=hv;rfl
theorem Has.row(h:Has w b cs t)(cs':Array Value):Has (w.setRow b cs') b cs' t:=setRow_heap w b cs cs' t (0,0) h
theorem Has.R1(h:Has w b cs t)(g:Nat)(cs':Array Value)(ha:b≠g):Has (w.setRow g cs') b cs t:=(setRow_other w g b cs' ha).trans h
variable{a:World}{r:Option Nat}
theorem pZ{b c:World}(h:a.grownBy b r)(k:b.grownBy c r):a.grownBy c r:=⟨k.os.trans h.os,k.tape.trans h.tape,k.output.trans h.output,Nat.le_trans h.size k.size,fun i hi hn=>(k.block i (Nat.lt_of_lt_of_le hi h.size) hn).trans (h.block i hi hn)⟩
theorem Dn(w:World)(r:Option Nat):w.grownBy w r:=⟨rfl,rfl,rfl,Nat.le_refl _,fun _ _ _=>rfl⟩
theorem wM{b:World}(h:Bl a b)(r:Option Nat):a.grownBy b r:=⟨h.os,h.tape,h.output,h.size,fun k hk _=>h.block k hk⟩
theorem Jg{b:World}(h:a.grownBy b r)(n:Nat):a.grownBy (b.drewN n) r:=⟨h.os,h.tape,h.output,h.size,h.block⟩
theorem oY{b:World}(h:a.grownBy b (some g))(o:Nat)(v:Value):a.grownBy (b.setCell ⟨g,o,none⟩ v) (some g):=
 pZ h ⟨rfl,rfl,rfl,by simp[World.setCell],fun k _ hn=>Below.heap_setCell _ _ _ _ (fun e=>hn (by rw[e]))⟩
theorem Om{b:World}(h:a.grownBy b (some g))(cs:Array Value):a.grownBy (b.setRow g cs) (some g):=
 pZ h ⟨rfl,rfl,rfl,by simp[World.setRow],fun k _ hn=>setRow_other b g k cs (fun e=>hn (by rw[e]))⟩
theorem eY{b:World}(h:a.grownBy b r){g:Nat}{cs:Array Value}{t:TypeId}(hg:Has a g cs t)(hn:some g≠r):Has b g cs t:=(h.block g hg.lt hn).trans hg
theorem qm{b:World}(h:a.grownBy b (some g))(hB:B<=g)(hs:B<=a.heap.size):Below B a b:=⟨h.os,h.tape,h.output,h.size,fun k hk=>h.block k (by omega) (by intro e;cases e;omega)⟩
theorem cg{b:World}(h:Below B a b){g:Nat}{cs:Array Value}{t:TypeId}(hg:Has a g cs t)(hB:g<B):Has b g cs t:=(h.block g hB).trans hg
def aC(f:Nat->cV)(l:List UInt8)(t:Nat):Array Value:=words f 8++ae l++#[ay (t:Int)]
theorem jN(f l t j)(h:j<8):(aC f l t)[j]?=some (.int .u32 (Wd.n (f j))):=by unfold aC;rw[Array.getElem?_append,if_pos (by rw[Array.size_append,fh];omega),Array.getElem?_append,if_pos (by rw[fh];exact h),oT f 8 j h]
theorem Pv(l:List UInt8)(j:Nat)(h:j<l.length):(ae l)[j]?=some (.int .u8 (l[j].toNat:Int)):=by simp[ae,h]
theorem Ol(f l t j)(h:j<l.length):(aC f l t)[8+j]?=some (.int .u8 (l[j].toNat:Int)):=by unfold aC;rw[Array.getElem?_append,if_pos (by rw[Array.size_append,fh,jH];omega),Array.getElem?_append,if_neg (by rw[fh];omega),fh,Nat.add_sub_cancel_left,Pv l j h]
theorem CJ(f l t)(h:l.length=64):(aC f l t)[72]?=some (ay (t:Int)):=by unfold aC;rw[Array.getElem?_append,if_neg (by rw[Array.size_append,fh,jH];omega),Array.size_append,fh,jH,h];rfl
theorem Cp(f l t):(aC f l t).size=l.length+9:=by unfold aC;simp[fh,jH];omega
theorem DB(a b:Array Value)(i:Nat)(v:Value)(h:i<a.size):(a++b).setIfInBounds i v=a.setIfInBounds i v++b:=by apply Array.ext_getElem?;intro j;simp only[Array.getElem?_setIfInBounds,Array.getElem?_append,Array.size_append,Array.size_setIfInBounds];by_cases hij:i=j;subst hij;rw[if_pos rfl,if_pos (by omega),if_pos h,if_pos rfl,if_pos h];rw[if_neg hij,if_neg hij]
theorem Ry(a b:Array Value)(i:Nat)(v:Value):(a++b).setIfInBounds (a.size+i) v=a++b.setIfInBounds i v:=by
 apply Array.ext_getElem?;intro j;by_cases h:j<a.size;rw[Array.getElem?_setIfInBounds,if_neg (by omega),Array.getElem?_append,if_pos h,Array.getElem?_append,if_pos h]
 ·obtain⟨d,rfl⟩:=Nat.exists_eq_add_of_le (Nat.le_of_not_lt h)
  rw[Array.getElem?_append (xs:=a) (ys:=b.setIfInBounds i v),if_neg h,Nat.add_sub_cancel_left,Array.getElem?_setIfInBounds,Array.getElem?_setIfInBounds,Array.size_append,
   Array.getElem?_append (xs:=a) (ys:=b),if_neg h,Nat.add_sub_cancel_left]
  by_cases e:i=d;subst e;simp;rw[if_neg (by omega),if_neg e]
theorem MW(f l t i x)(h:i<8):(aC f l t).setIfInBounds i (.int .u32 (Wd.n x))=aC (bY f i x) l t:=by unfold aC;rw[DB _ _ _ _ (by rw[Array.size_append,fh];omega),DB _ _ _ _ (by rw[fh];exact h),II]
theorem OU(f l)(t t':Nat)(h:l.length=64):(aC f l t).setIfInBounds 72 (ay (t':Int))=aC f l t':=by unfold aC;have:=Ry (words f 8++ae l) #[ay (t:Int)] 0 (ay (t':Int));rw[Array.size_append,fh,jH,h]at this;rw[this];rfl
theorem PW{f g:Nat->cV}(h:∀j,j<8->f j=g j)(l t):aC f l t=aC g l t:=by unfold aC;rw[wE h]
theorem QD(w:World)(dT sT ty elem:TypeId)(g o dLen dCap n:Nat)(s:ByteArray)(cur:Array Value)(t:TypeId)(hu:P.underlying dT=some (.slice elem))(hs:(P.info? elem).map (·.size)=some 1)(hg:w.heap[g]?=some (.cells cur t (0,0)))(hn:n=Nat.min s.size dLen)(hfit:o+n<=cur.size):(Builtin.copy_ #[dT,sT] ty #[.slice (some ⟨g,o,none⟩) dLen dCap,.string s]).run P w=.ok (goInt n) (w.setRow g (cur.toList.take o++(Lib.byteCells (s.data.toList.take n)++cur.toList.drop (o+n))).toArray):=by
 have hl:(s.data.toList.take n).length=n:=by rw[List.length_take,<-Lib.size_eq,hn];simp only[Nat.min_def];split<;>(try split)<;>omega
 have hlen:(Lib.byteCells (s.data.toList.take n)).length=n:=by rw[Lib.byteCells_length,hl]
 have hst:=run_storeCells_at P g o t (Lib.byteCells (s.data.toList.take n)) 0 cur w hg (by rw[hlen];simpa using hfit) (Lib.byteCells_one _)
 have htk:List.take n (List.map (fun b:UInt8=>Value.int IntKind.u8 (b.toNat:Int)) s.data.toList)=Lib.byteCells (s.data.toList.take n):=by
  rw[<-List.map_take];rfl
 rw[hlen]at hst;simp only[Nat.add_zero]at hst;cases hq:P.info? elem with
 | none=>simp[hq]at hs
 | some i=>
  simp[Builtin.copy_,run_underlying hu,Builtin.lenOf,Builtin.firstCells,sizeOf,typeInfo,hq,<-hn];rw[htk,hst];simp[Result.andThen]
theorem iD(l:List UInt8):(ae l).toList=Lib.byteCells l:=by simp[ae,Lib.byteCells]
theorem P7(f:Nat->cV)(l x:List UInt8)(t r n:Nat)(hx:x.length=n)(hr:r+n<=l.length):((aC f l t).toList.take (8+r)++(Lib.byteCells x++(aC f l t).toList.drop (8+r+n))).toArray=aC f (l.take r++x++l.drop (r+n)) t:=by
 have hw:(words f 8).toList.length=8:=by rw[Array.length_toList,fh]
 have hb:(Lib.byteCells l).length=l.length:=Lib.byteCells_length l;apply Array.toList_inj.1;simp only[aC,Array.toList_append,iD,Lib.byteCells,List.map_append,List.map_take,List.map_drop];have hb':(List.map (fun b:UInt8=>Value.int IntKind.u8 (b.toNat:Int)) l).length=l.length:=by simp
 generalize List.map (fun b:UInt8=>Value.int IntKind.u8 (b.toNat:Int)) l=L at*;generalize(words f 8).toList=A at*
 rw[List.append_assoc A,List.take_append,hw,List.take_of_length_le (by omega),Nat.add_sub_cancel_left,List.take_append_of_le_length (by omega),
  List.drop_append,hw,List.drop_eq_nil_of_le (by omega),List.nil_append,show 8+r+n-8=r+n by omega,List.drop_append_of_le_length (by omega)]
 simp only[List.append_assoc]
theorem Pb{ops:Array Oper}{o:Oper}{a:Act}{w:World}{K:Act->World->Prop}{Q:Exit->Act->World->Prop}{E:Prop}(hg:o.guard=none)(d x:Operand)(dT sT:TypeId)(hop:o.op=Op.call { callee:=Callee.builtin Builtin.copy,args:=#[d,x],argTypes:=#[dT,sT] })(elem:TypeId)(hu:P.underlying dT=some (.slice elem))(hz:(P.info? elem).map (·.size)=some 1)(b off dLen dCap n:Nat)(hd:a.eval d=.slice (some ⟨b,off,none⟩) dLen dCap)(t:ByteArray)(hx:a.eval x=.string t)(cur:Array Value)(ty:TypeId)(hh:w.heap[b]?=some (.cells cur ty (0,0)))(hn:n=Nat.min t.size dLen)(hfit:off+n<=cur.size)(hK:K (a.put o.dst (goInt n)) (w.setRow b (cur.toList.take off++(Lib.byteCells (t.data.toList.take n)++cur.toList.drop (off+n))).toArray)):if Region.wanted o (yielded ops a.tmps)=true then Oper.wp P o a w K Q else E:=by
 have hw:Region.wanted o (yielded ops a.tmps)=true:=by simp[Region.wanted,hg]
 rw[if_pos hw];have hrun:=QD (P:=P) w dT sT o.type elem b off dLen dCap n t cur ty hu hz hh hn hfit;unfold Oper.wp;simp[execOp,hop,resolve,invoke,builtin,hd,hx,hrun,Result.andThen];exact hK
theorem kq{f:FuncId}{args:Array Value}{w:World}{n:Nat}{v:Value}(h:Calls P f args (w.drewN n) fun e w'=>e=.returned v/\w.drewN n=w'):Calls P f args (w.drewN n) fun e w''=>e=.returned v/\∃m,w''=w.drewN m:=
 h.mono fun _ _ ⟨he,hm⟩=>⟨he,n,hm.symm⟩
