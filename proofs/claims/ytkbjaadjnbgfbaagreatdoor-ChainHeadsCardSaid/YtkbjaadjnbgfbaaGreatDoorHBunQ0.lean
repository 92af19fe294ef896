import Derived.Test.YtkbjaadjnbgfbaaGreatDoorHIda
import Derived.WalkSpells
import Derived.WalkLawsBesides
set_option maxRecDepth 100000
set_option maxHeartbeats 4000000
namespace Go.Proofs.YtkbjaadjnbgfbaaGreatDoor
namespace Wd
open Go.RowKit
def n(x:BitVec 32):Int:=(x.toNat:Int)
theorem O8(x:BitVec 32):0<=n x:=Int.natCast_nonneg _
theorem Sq(x:BitVec 32):n x<4294967296:=by have:=x.isLt;unfold n;omega
theorem SO(k:Nat):IntKind.u32.wrap (k:Int)=n (BitVec.ofNat 32 k):=by unfold n;rw[IntKind.wrap_u32',BitVec.toNat_ofNat];omega
theorem add(x y:BitVec 32):IntKind.u32.wrap (n x+n y)=n (x+y):=by unfold n;rw[IntKind.wrap_u32',BitVec.toNat_add];omega
theorem uo(x:BitVec 32):BitVec.ofInt 32 (n x)=x:=by unfold n;simp
theorem ES(x:BitVec 32):IntKind.u32.wrap (x.toNat:Int)=n x:=by unfold n;rw[IntKind.wrap_u32'];have:=x.isLt;omega
theorem and(x y:BitVec 32):bits .and .u32 (n x) (n y)=n (x&&&y):=by show IntKind.u32.wrap ((BitVec.ofInt 32 (n x)&&&BitVec.ofInt 32 (n y)).toNat:Int)=_;rw[uo,uo,ES]
theorem or(x y:BitVec 32):bits .or .u32 (n x) (n y)=n (x|||y):=by show IntKind.u32.wrap ((BitVec.ofInt 32 (n x)|||BitVec.ofInt 32 (n y)).toNat:Int)=_;rw[uo,uo,ES]
theorem xor(x y:BitVec 32):bits .xor .u32 (n x) (n y)=n (x^^^y):=by show IntKind.u32.wrap ((BitVec.ofInt 32 (n x)^^^BitVec.ofInt 32 (n y)).toNat:Int)=_;rw[uo,uo,ES]
theorem shl(x:BitVec 32)(m:Nat):n x*(2:Int)^m%(4294967296:Int)=n (x<<<m):=by unfold n;rw[show(x.toNat:Int)*2^m=((x.toNat*2^m:Nat):Int) by simp,BitVec.toNat_shiftLeft,jz];omega
theorem shr(x:BitVec 32)(m:Nat):n x/(2:Int)^m=n (x>>>m):=by unfold n;simp[BitVec.toNat_ushiftRight,Nat.shiftRight_eq_div_pow]
theorem rX(x:BitVec 32):n x*(256:Int)%(4294967296:Int)=n (x<<<8):=by have:=shl x 8;simpa using this
theorem rU(x:BitVec 32):n x/(8:Int)=n (x>>>3):=by have:=shr x 3;simpa using this
theorem nS(x:BitVec 32):n x/(1024:Int)=n (x>>>10):=by have:=shr x 10;simpa using this
theorem not(x:BitVec 32):bits .xor .u32 (if IntKind.u32.signed=true then -1 else IntKind.u32.max) (n x)=n (~~~x):=by
 have e:(if IntKind.u32.signed=true then(-1:Int)else IntKind.u32.max)=n (BitVec.allOnes 32):=by decide
 rw[e,xor,BitVec.allOnes_xor]
theorem not'(x:BitVec 32):bits .xor .u32 4294967295 (n x)=n (~~~x):=by
 have e:(4294967295:Int)=n (BitVec.allOnes 32):=by decide
 rw[e,xor,BitVec.allOnes_xor]
theorem qm(x:BitVec 32):IntKind.u32.wrap (4294967295-n x)=n (~~~x):=by unfold n;rw[IntKind.wrap_u32',BitVec.toNat_not];have:=x.isLt;omega
def dO(b:UInt8):BitVec 32:=BitVec.ofNat 32 b.toNat
theorem Gi(b:UInt8):n (dO b)=(b.toNat:Int):=by unfold n dO;rw[BitVec.toNat_ofNat];have:=b.toNat_lt;omega
theorem byte(b:UInt8):IntKind.u32.wrap (b.toNat:Int)=n (dO b):=by unfold dO;rw[SO]
theorem pS(x:BitVec 32)(b:UInt8):bits .or .u32 (n x) (b.toNat:Int)=n (x|||dO b):=by rw[<-or,Gi]
theorem Kh(k:Int)(h1:0<k)(h2:k<32):bits .and .u64 (IntKind.u64.wrap (-k)) 31=((32-k.toNat:Nat):Int):=by
 have h:∀j:Fin 32,0<j.val->bits .and .u64 (IntKind.u64.wrap (-(j.val:Int))) 31=((32-j.val:Nat):Int):=by decide +kernel
 have:=h ⟨k.toNat,by omega⟩ (by show 0<k.toNat;omega);rw[show(((⟨k.toNat,by omega⟩:Fin 32).val:Nat):Int)=k from by show(k.toNat:Int)=k;omega]at this;exact this
theorem UZ(x:BitVec 32)(k:Int)(h1:0<k)(h2:k<32):x.rotateLeft (32-k.toNat)=x.rotateRight k.toNat:=by rw[BitVec.rotateLeft_def,BitVec.rotateRight_def,bp (by omega),bp (by omega),BitVec.or_comm,show 32-(32-k.toNat)=k.toNat by omega]
theorem ym(x:BitVec 32)(k:Nat)(h1:0<k)(h2:k<32):x>>>k+x<<<(32-k)=x.rotateRight k:=by rw[BitVec.rotateRight_def,bp h2];apply BitVec.add_eq_or_of_and_eq_zero;apply BitVec.eq_of_getLsbD_eq;intro i hi;rw[BitVec.getLsbD_and,BitVec.getLsbD_ushiftRight,BitVec.getLsbD_shiftLeft,BitVec.getLsbD_zero];by_cases h:i<32-k;simp[h];rw[BitVec.getLsbD_of_ge x (k+i) (by omega)];simp
end Wd
namespace VH
abbrev ef:=BitVec 32
abbrev dO:=Wd.dO
def iA(l:List UInt8):ef:=l.foldl (fun acc b=>acc<<<8|||dO b) 0
def aW(l:List UInt8)(i:Nat):ef:=iA ((l.drop (4*i)).take 4)
def LR(x:ef):ef:=x.rotateRight 7^^^x.rotateRight 18^^^x>>>3
def GX(x:ef):ef:=x.rotateRight 17^^^x.rotateRight 19^^^x>>>10
def dI(m:Nat->ef):Nat->List ef
 | 0=>(List.range 16).map m
 | n+1=>dI m n++[(dI m n).getD n 0+LR ((dI m n).getD (n+1) 0)+(dI m n).getD (n+9) 0+GX ((dI m n).getD (n+14) 0)]
def sched(m:Nat->ef)(j:Nat):ef:=(dI m 48).getD j 0
theorem DN(m:Nat->ef):∀n,(dI m n).length=n+16
 | 0=>by simp[dI]
 | n+1=>by simp[dI,DN m n]
theorem EC(m:Nat->ef)(n j:Nat)(h:j<n+16):∀d,(dI m (n+d)).getD j 0=(dI m n).getD j 0
 | 0=>rfl
 | d+1=>by
  rw[<-EC m n j h d];show(dI m (n+d)++_).getD j 0=_;rw[dC,dm (by rw[DN];omega),<-List.getD_eq_getElem?_getD]
theorem G9(m:Nat->ef)(j:Nat)(h:j<16):sched m j=m j:=by have:=EC m 0 j (by omega) 48;rw[cy]at this;unfold sched;rw[this];simp[dI,h]
theorem uO(m:Nat->ef)(n j:Nat)(h:j<n+16)(hn:n<=48):(dI m n).getD j 0=sched m j:=by have:=EC m n j h (48-n);rw[show n+(48-n)=48 by omega]at this;exact this.symm
theorem IF(m:Nat->ef)(i:Nat)(h:16<=i)(h2:i<64):sched m i=sched m (i-16)+LR (sched m (i-15))+sched m (i-7)+GX (sched m (i-2)):=by obtain⟨n,rfl⟩:∃n,i=n+16:=⟨i-16,by omega⟩;rw[<-uO m (n+1) (n+16) (by omega) (by omega)];show(dI m n++[_]).getD (n+16) 0=_;have hl:=DN m n;rw[dC,dE (by omega),hl,iu];rw[uO m n _ (by omega) (by omega),uO m n _ (by omega) (by omega),uO m n _ (by omega) (by omega),uO m n _ (by omega) (by omega)];rw[show n+16-16=n by omega,show n+16-15=n+1 by omega,show n+16-7=n+9 by omega,show n+16-2=n+14 by omega];rfl
structure S8 where
 a:ef
 b:ef
 c:ef
 d:ef
 e:ef
 f:ef
 g:ef
 h:ef
def S8.at(s:S8):Nat->ef
 | 0=>s.a|1=>s.b|2=>s.c|3=>s.d|4=>s.e|5=>s.f|6=>s.g|_=>s.h
def S8.of(f:Nat->ef):S8:=⟨f 0,f 1,f 2,f 3,f 4,f 5,f 6,f 7⟩
theorem S8.qX(s:S8):S8.of s.at=s:=rfl
def O_:List ef:=[
  0x428a2f98,0x71374491,0xb5c0fbcf,0xe9b5dba5,0x3956c25b,0x59f111f1,0x923f82a4,0xab1c5ed5,
  0xd807aa98,0x12835b01,0x243185be,0x550c7dc3,0x72be5d74,0x80deb1fe,0x9bdc06a7,0xc19bf174,
  0xe49b69c1,0xefbe4786,0x0fc19dc6,0x240ca1cc,0x2de92c6f,0x4a7484aa,0x5cb0a9dc,0x76f988da,
  0x983e5152,0xa831c66d,0xb00327c8,0xbf597fc7,0xc6e00bf3,0xd5a79147,0x06ca6351,0x14292967,
  0x27b70a85,0x2e1b2138,0x4d2c6dfc,0x53380d13,0x650a7354,0x766a0abb,0x81c2c92e,0x92722c85,
  0xa2bfe8a1,0xa81a664b,0xc24b8b70,0xc76c51a3,0xd192e819,0xd6990624,0xf40e3585,0x106aa070,
  0x19a4c116,0x1e376c08,0x2748774c,0x34b0bcb5,0x391c0cb3,0x4ed8aa4a,0x5b9cca4f,0x682e6ff3,
  0x748f82ee,0x78a5636f,0x84c87814,0x8cc70208,0x90befffa,0xa4506ceb,0xbef9a3f7,0xc67178f2]
def xl(i:Nat):ef:=O_.getD i 0
def start:S8:=⟨0x6a09e667,0xbb67ae85,0x3c6ef372,0xa54ff53a,0x510e527f,0x9b05688c,0x1f83d9ab,0x5be0cd19⟩
def PN(s:S8)(k w:ef):ef:=s.h+(s.e.rotateRight 6^^^s.e.rotateRight 11^^^s.e.rotateRight 25)+(s.e&&&s.f|||~~~s.e&&&s.g)+k+w
def RT(s:S8):ef:=(s.a.rotateRight 2^^^s.a.rotateRight 13^^^s.a.rotateRight 22)+(s.a&&&s.b|||s.a&&&s.c|||s.b&&&s.c)
def round(s:S8)(k w:ef):S8:=⟨PN s k w+RT s,s.a,s.b,s.c,s.d+PN s k w,s.e,s.f,s.g⟩
def rounds(s:S8)(w:Nat->ef):Nat->S8
 | 0=>s
 | n+1=>round (rounds s w n) (xl n) (w n)
def S8.add(s t:S8):S8:=⟨s.a+t.a,s.b+t.b,s.c+t.c,s.d+t.d,s.e+t.e,s.f+t.f,s.g+t.g,s.h+t.h⟩
def jC(s:S8)(block:List UInt8):S8:=s.add (rounds s (sched (aW block)) 64)
def bV:Nat->S8->List UInt8->S8
 | 0,s,_=>s
 | n+1,s,l=>bV n (jC s (l.take 64)) (l.drop 64)
def bY(n:Nat):List UInt8:=(List.range 8).map fun i=>UInt8.ofNat (n*8/2^(8*(7-i))%256)
def ending(n:Nat):List UInt8:=0x80::(List.replicate ((119-n%64)%64) 0++bY n)
def nameOf(s:S8):List UInt8:=(List.range 32).map fun i=>UInt8.ofNat ((s.at (i/4)).toNat/2^(24-8*(i%4))%256)
theorem Em:∀(n:Nat)(s:S8)(l:List UInt8),bV (n+1) s l=jC (bV n s l) ((l.drop (64*n)).take 64)
 | 0,s,l=>by simp[bV]
 | n+1,s,l=>by
  show bV (n+1) (jC s (l.take 64)) (l.drop 64)=_;rw[Em n,List.drop_drop,show 64+64*n=64*(n+1) by omega];rfl
theorem EI:∀(n:Nat)(s:S8)(l x:List UInt8),64*n<=l.length->bV n s (l++x)=bV n s l
 | 0,_,_,_,_=>rfl
 | n+1,s,l,x,h=>by
  show bV n (jC s ((l++x).take 64)) ((l++x).drop 64)=bV n (jC s (l.take 64)) (l.drop 64);rw[pQ (by omega),pK (by omega)];exact EI n _ _ x (by rw[gD];omega)
def gP(l:List UInt8):List UInt8:=nameOf (bV ((l++ending l.length).length/64) start (l++ending l.length))
