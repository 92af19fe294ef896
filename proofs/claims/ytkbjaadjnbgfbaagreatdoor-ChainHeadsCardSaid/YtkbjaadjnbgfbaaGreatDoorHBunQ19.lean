import Derived.Test.YtkbjaadjnbgfbaaGreatDoorHIda
import Init
set_option maxRecDepth 100000
set_option maxHeartbeats 4000000
namespace Go.Proofs.YtkbjaadjnbgfbaaGreatDoor.NN.Nm
def wd(x i:Nat):Nat:=x/2^(64*i)%18446744073709551616
def ak:Nat:=115792089237316195423570985008687907853269984665640564039457584007913129639936
theorem dj:ak=2^256:=by decide
theorem ft(x i:Nat):wd x i<18446744073709551616:=bq _ (by decide)
theorem sM(x:Nat):wd x 0=x%18446744073709551616:=by simp[wd]
theorem uH(x:Nat):wd x 1=x/18446744073709551616%18446744073709551616:=by simp[wd]
theorem wC(x:Nat):wd x 2=x/340282366920938463463374607431768211456%18446744073709551616:=by simp[wd]
theorem wh(x:Nat):wd x 3=x/6277101735386680763835789423207666416102355444464034512896%18446744073709551616:=by simp[wd]
variable{k x y b i n m t j a out rest:Nat}
theorem four(h:k<4):k=0\/k=1\/k=2\/k=3:=by omega
theorem vP(x:Nat)(h:x<ak):x=wd x 0+18446744073709551616*wd x 1+340282366920938463463374607431768211456*wd x 2+6277101735386680763835789423207666416102355444464034512896*wd x 3:=by rw[sM,uH,wC,wh];unfold ak at h;omega
theorem Ee(hx:x<ak)(hy:y<ak)(h:∀i,i<4->wd x i=wd y i):x=y:=by rw[vP x hx,vP y hy,h 0 (by omega),h 1 (by omega),h 2 (by omega),h 3 (by omega)]
theorem Fb(x:Nat){i:Nat}(hi:i<4):wd (x%ak) i=wd x i:=by
 unfold ak;rcases four hi with rfl|rfl|rfl|rfl
 rw[sM,sM];omega;rw[uH,uH];omega;rw[wC,wC];omega;rw[wh,wh];omega
def carry(x y k:Nat):Nat:=(x%2^(64*k)+y%2^(64*k))/2^(64*k)
theorem Om(x y k:Nat):carry x y k<=1:=by
 have hP:0<2^(64*k):=dr (by decide);have:=bq x hP;have:=bq y hP;unfold carry;have:(x%2^(64*k)+y%2^(64*k))/2^(64*k)<2:=by rw[ie hP];omega
 omega
theorem RA(x y:Nat):carry x y 0=0:=by simp[carry,Nat.mod_one]
theorem uG(k:Nat):2^(64*(k+1))=2^(64*k)*18446744073709551616:=by rw[show 64*(k+1)=64*k+64 by omega,kN]
theorem Sv(x y k:Nat):carry x y (k+1)=(wd x k+wd y k+carry x y k)/18446744073709551616:=by
 unfold carry wd;rw[uG];generalize 2^(64*k)=P;rw[iw,iw,<-Nat.div_div_eq_div_mul];by_cases hP:P=0;subst hP;simp
 ·have h:(x%P+P*(x/P%18446744073709551616)+(y%P+P*(y/P%18446744073709551616)))/P=x/P%18446744073709551616+y/P%18446744073709551616+(x%P+y%P)/P:=by
   rw[show x%P+P*(x/P%18446744073709551616)+(y%P+P*(y/P%18446744073709551616))=P*(x/P%18446744073709551616+y/P%18446744073709551616)+(x%P+y%P) by rw[j9];omega,
    gK (by omega)]
  rw[h]
theorem D3(x y k:Nat):wd (x+y) k=(wd x k+wd y k+carry x y k)%18446744073709551616:=by
 unfold carry wd;generalize XF:2^(64*k)=P;have hP:0<P:=by rw[<-XF];exact dr (by decide)
 have h:(x+y)/P=x/P+y/P+(x%P+y%P)/P:=by
  have e:x+y=P*(x/P+y/P)+(x%P+y%P):=by
   have:=jv x P;have:=jv y P;rw[j9];omega
  conv=>lhs;rw[e]
  rw[gK hP]
 rw[h];omega
theorem TF(hx:x<ak)(hy:y<ak):carry x y 4=(x+y)/ak:=by unfold carry;rw[show 2^(64*4)=ak from by decide,bp hx,bp hy]
def borrow(x y k:Nat):Nat:=if x%2^(64*k)<y%2^(64*k)then 1 else 0
theorem Kr(x y k:Nat):borrow x y k<=1:=by unfold borrow;split<;>omega
theorem RX(x y:Nat):borrow x y 0=0:=by simp[borrow,Nat.mod_one]
theorem Th(x y k:Nat):borrow x y (k+1)=if wd x k<wd y k+borrow x y k then 1 else 0:=by
 unfold borrow wd;rw[uG];generalize XF:2^(64*k)=P;have hP:0<P:=by rw[<-XF];exact dr (by decide)
 rw[iw,iw];have hx:=bq x hP;have hy:=bq y hP;generalize x/P%18446744073709551616=a;generalize y/P%18446744073709551616=b;generalize x%P=c at*;generalize y%P=d at*;congr 1;apply propext;rcases oa a b with h|h|h
 ·have:P*(a+1)<=P*b:=nU P h;rw[j9]at this;constructor
  ·intro _;split<;>omega
  intro _;omega
 ·subst h;constructor
  ·intro _;split<;>omega
  ·intro h;split at h<;>omega
 ·have:P*(b+1)<=P*a:=nU P h;rw[j9]at this;constructor;intro _;omega
  ·intro h;split at h<;>omega
theorem GB(x y:Nat)(hx:x<ak)(hy:y<ak){k:Nat}(hk:k<4):wd (x+ak-y) k=(wd x k+18446744073709551616-wd y k-borrow x y k)%18446744073709551616:=by
 unfold borrow ak at*;rcases four hk with rfl|rfl|rfl|rfl
 rw[sM,sM,sM];simp only[Nat.mul_zero,Nat.pow_zero,Nat.mod_one];rw[ah (by omega)];omega
 ·rw[uH,uH,uH];simp only[fx,Nat.reducePow];split<;>omega
 ·rw[wC,wC,wC];simp only[Nat.reduceMul,Nat.reducePow];split<;>omega
 ·rw[wh,wh,wh];simp only[Nat.reduceMul,Nat.reducePow];split<;>omega
theorem UJ(hx:x<ak)(hy:y<ak):borrow x y 4=if x<y then 1 else 0:=by unfold borrow;rw[show 2^(64*4)=ak from by decide,bp hx,bp hy]
def over(x b k:Nat):Nat:=x%2^(64*k)*b/2^(64*k)
theorem Tt(x b:Nat):over x b 0=0:=by simp[over,Nat.mod_one]
theorem yP(x b k:Nat)(hb:0<b):over x b k<b:=by have hP:0<2^(64*k):=dr (by decide);unfold over;rw[ie hP,gd b];exact nQ (bq x hP) hb
theorem UI(x b k:Nat):over x b (k+1)=(wd x k*b+over x b k)/18446744073709551616:=by
 unfold over wd;rw[uG];generalize XF:2^(64*k)=P;have hP:0<P:=by rw[<-XF];exact dr (by decide)
 rw[iw,<-Nat.div_div_eq_div_mul,fN,gx (x%P*b),jc,gK hP]
theorem EE(x b k:Nat):wd (x*b) k=(wd x k*b+over x b k)%18446744073709551616:=by
 unfold over wd;generalize XF:2^(64*k)=P;have hP:0<P:=by rw[<-XF];exact dr (by decide)
 have h:x*b/P=x/P*b+x%P*b/P:=by
  conv=>lhs;rw[<-Nat.div_add_mod x P,fN,jc,gK hP]
 rw[h,<-Nat.add_mod_mod,<-Nat.mod_add_mod,<-Nat.mod_mul_mod,Nat.mod_add_mod,Nat.add_mod_mod]
theorem RM(hx:x<ak):over x b 4=x*b/ak:=by unfold over;rw[show 2^(64*4)=ak from by decide,bp hx]
def bit(x i:Nat):Nat:=x/2^i%2
theorem Oo(x i:Nat):bit x i=(x.testBit i).toNat:=by unfold bit;rw[Nat.toNat_testBit]
theorem lC(x i j:Nat):(wd x i).testBit j=(decide (j<64)&&x.testBit (64*i+j)):=by unfold wd;rw[show(18446744073709551616:Nat)=2^64 by decide,pT,Nat.testBit_div_two_pow];rw[gx]
theorem DJ(x i:Nat):wd x (i/64)/2^(i%64)%2=bit x i:=by rw[show wd x (i/64)/2^(i%64)%2=bit (wd x (i/64)) (i%64)from rfl,Oo,Oo,lC];have:i%64<64:=bq _ (by decide);rw[show 64*(i/64)+i%64=i from jv i 64];simp[this]
theorem k7(x i:Nat):bit x i<2:=bq _ (by decide)
theorem Du(x i:Nat):x%2^(i+1)=2^i*bit x i+x%2^i:=by unfold bit;rw[fG,iw];omega
theorem v_(h:x<2^i):x|||2^i=2^i+x:=by have:=oh h 1;rw[fx]at this;rw[this,Nat.or_comm]
theorem GI(h:x%2^(i+1)=0):x|||2^i=x+2^i:=by
 have h2:2^i<2^(i+1):=Nat.pow_lt_pow_right (by decide) (by omega);have:=oh h2 (x/2^(i+1));have e:2^(i+1)*(x/2^(i+1))=x:=by have:=jv x (2^(i+1));omega
 rw[e]at this;exact this.symm
theorem H_(x i j:Nat):wd (x|||2^i) j=if j=i/64 then wd x j|||2^(i%64)else wd x j:=by
 apply iO;intro m;rw[lC,k_,Nat.testBit_two_pow];split
 ·rename_i h;rw[k_,Nat.testBit_two_pow,lC];by_cases hm:m<64
  ·have:(i=64*j+m)↔(i%64=m):=by omega
   simp[hm,this]
  ·have:¬(i%64=m):=by omega
   simp[hm,this]
 ·rename_i h;rw[lC];by_cases hm:m<64
  ·have:¬(i=64*j+m):=by omega
   simp[hm,this]
  simp[hm]
def dJ(x y i:Nat):Nat:=(x%2^i+y%2^i)/2^i
def jP(x y i:Nat):Nat:=(x%2^i+y%2^i)%2^i
theorem Gn(x y i:Nat):jP x y i<2^i:=bq _ (dr (by decide))
theorem Tv(x y i:Nat):dJ x y i<=1:=by
 have hP:0<2^i:=dr (by decide);have:=bq x hP;have:=bq y hP;unfold dJ;have:(x%2^i+y%2^i)/2^i<2:=by rw[ie hP];omega
 omega
theorem B9(x y:Nat):dJ x y 0=0/\jP x y 0=0:=by simp[dJ,jP,Nat.mod_one]
theorem BK(x y i:Nat):x%2^(i+1)+y%2^(i+1)=2^i*(bit x i+bit y i+dJ x y i)+jP x y i:=by rw[Du,Du];have:=jv (x%2^i+y%2^i) (2^i);unfold dJ jP;rw[j9,j9];omega
theorem Oq(x y i:Nat):dJ x y (i+1)=(bit x i+bit y i+dJ x y i)/2:=by have h:=BK x y i;have hl:=Gn x y i;unfold dJ at*;rw[h,fG,<-Nat.div_div_eq_div_mul,gK (dr (by decide)),eY hl,iv]
theorem Oi(x y i:Nat):jP x y (i+1)=2^i*((bit x i+bit y i+dJ x y i)%2)+jP x y i:=by
 have h:=BK x y i;have hl:=Gn x y i;have e:jP x y (i+1)=(2^i*(bit x i+bit y i+dJ x y i)+jP x y i)%2^(i+1):=by rw[<-h];rfl
 rw[e,fG,iw,Nat.mul_add_mod,bp hl,gK (dr (by decide)),eY hl,iv,gx]
theorem IC(h:(bit x i+bit y i+dJ x y i)%2=1):jP x y i|||2^i=jP x y (i+1):=by rw[Oi,h,v_ (Gn x y i),fx]
theorem Rx(h:(bit x i+bit y i+dJ x y i)%2≠1):jP x y i=jP x y (i+1):=by rw[Oi,show(bit x i+bit y i+dJ x y i)%2=0 by omega,Nat.mul_zero,cy]
theorem Pf(hx:x<ak)(hy:y<ak):jP x y 256=(x+y)%ak:=by unfold jP;rw[<-dj,bp hx,bp hy]
theorem SD(hx:x<ak)(hy:y<ak):dJ x y 256=(x+y)/ak:=by unfold dJ;rw[<-dj,bp hx,bp hy]
def isLen(x n:Nat):Prop:=x<2^n/\(n≠0->2^(n-1)<=x)
theorem DX(h:isLen x n)(k:x<2^m):n<=m:=by by_cases h0:n=0;omega;have:=h.2 h0;have:2^(n-1)<2^m:=eH this k;have:=(Nat.pow_lt_pow_iff_right (show 1<2 by decide)).1 this;omega
theorem Sj(h:isLen x n)(k:isLen x m):n=m:=Nat.le_antisymm (DX h k.1) (DX k h.1)
def len(x:Nat):Nat:=if x=0 then 0 else x.log2+1
theorem lD(x:Nat):isLen x (len x):=by
 unfold len isLen;split
 ·rename_i h;subst h;simp
 ·rename_i h;exact⟨Nat.lt_log2_self,fun _=>by rw[je];exact Nat.log2_self_le h⟩
theorem wj(h:isLen x n):n=len x:=Sj h (lD x)
theorem ll(k:x<2^m):len x<=m:=DX (lD x) k
theorem EJ(h:len x<=n):x<2^n:=b_ (lD x).1 (iW (by decide) h)
theorem GR(h:isLen (x/2^k) n)(h0:x/2^k≠0):isLen x (k+n):=by
 have hP:0<2^k:=dr (by decide)
 have hn:n≠0:=fun e=>by
  have:=h.1;rw[e]at this;simp at this;exact h0 (eY this)
 constructor;rw[kN,gd];exact(ie hP).1 h.1;intro _;rw[show k+n-1=n-1+k by omega,kN];exact(Nat.le_div_iff_mul_le hP).1 (h.2 hn)
theorem pO(h:x<2^(64*(k+1))):wd x k=x/2^(64*k):=by unfold wd;have hP:0<2^(64*k):=dr (by decide);rw[uG]at h;exact bp ((ie hP).2 (by rw[gd];exact h))
theorem Pe(h:x<2^(64*(k+1)))(h0:wd x k=0):x<2^(64*k):=by
 rw[pO h]at h0;have hP:0<2^(64*k):=dr (by decide);rcases fQ x (2^(64*k))with h|h
 exact h;have:=Nat.div_pos h hP;omega
def rZ(x i:Nat):Nat:=x/2^(8*i)%256
theorem SX(x i j:Nat):(rZ x i).testBit j=(decide (j<8)&&x.testBit (8*i+j)):=by unfold rZ;rw[show(256:Nat)=2^8 by decide,pT,Nat.testBit_div_two_pow,gx]
def db(f:Nat->Nat):Nat->Nat
 | 0=>0
 | k+1=>db f k|||f k<<<(8*k)
theorem zu{v:Nat}(hv:v<256)(ht:8<=t):v.testBit t=false:=Nat.testBit_lt_two_pow (b_ hv (iW (show 0<2 by decide) ht))
theorem D_(f:Nat->Nat)(hf:∀i,f i<256):∀(k m:Nat),(db f k).testBit m=(decide (m<8*k)&&(f (m/8)).testBit (m%8))
 | 0,m=>by simp[db]
 | k+1,m=>by
  rw[db,k_,D_ f hf k m,kZ];by_cases h:m<8*k
  ·have h1:m<8*(k+1):=by omega
   have h2:¬(8*k<=m):=by omega
   simp[h,h1,h2]
  ·by_cases h1:m<8*(k+1);have h2:8*k<=m:=(by omega);have h3:m/8=k:=(by omega);have h4:m-8*k=m%8:=(by omega);simp[h,h1,h2,h3,h4];have h2:8*k<=m:=(by omega);have h3:(f k).testBit (m-8*k)=false:=zu (hf k) (by omega);simp[h,h1,h3]
theorem E3(f:Nat->Nat)(hf:∀i,f i<256):∀k,db f k<2^(8*k)
 | 0=>by simp[db]
 | k+1=>by
  apply Nat.lt_pow_two_of_testBit;intro i hi;rw[D_ f hf];have:¬(i<8*(k+1)):=by omega
  simp[this]
theorem Uz(f:Nat->Nat)(hf:∀i,f i<256){k i:Nat}(hi:i<k):rZ (db f k) i=f i:=by
 apply iO;intro j;rw[SX,D_ f hf];by_cases hj:j<8
 ·have h1:8*i+j<8*k:=by omega
  have h2:(8*i+j)/8=i:=by omega
  have h3:(8*i+j)%8=j:=by omega
  simp[hj,h1,h2,h3]
 simp[hj,zu (hf i) (by omega:8<=j)]
theorem UM(x v i j:Nat)(hv:v<256):wd (x|||v<<<(8*i)) j=if j=i/8 then wd x j|||v<<<(8*(i%8))else wd x j:=by
 apply iO;intro m;rw[lC,k_,kZ];split
 ·rename_i h;rw[k_,kZ,lC];by_cases hm:m<64
  ·have h1:(64*j+m >= 8*i)↔(m >= 8*(i%8)):=by omega
   have h2:64*j+m-8*i=m-8*(i%8):=by omega
   simp[hm,h1,h2]
  have h3:v.testBit (m-8*(i%8))=false:=zu hv (by omega);simp[hm,h3]
 ·rename_i h;rw[lC];by_cases hm:m<64
  ·by_cases hg:64*j+m >= 8*i;have h3:v.testBit (64*j+m-8*i)=false:=zu hv (by omega);simp[hm,h3];simp[hm,hg]
  simp[hm]
def kV(x i:Nat):Nat:=2^i-1-x%2^i
theorem yu(x i:Nat):kV x i<2^i:=by have:0<2^i:=dr (by decide);unfold kV;omega
theorem RP(x:Nat):kV x 0=0:=by simp[kV]
theorem OO(x i:Nat):kV x (i+1)=2^i*(1-bit x i)+kV x i:=by
 have h:=Du x i;have hb:=k7 x i;have hl:=bq x (show 0<2^i from dr (by decide));unfold kV;rw[h,fG];generalize 2^i=P at*;obtain h0|h0:bit x i=0\/bit x i=1:=by omega
 rw[h0];omega;rw[h0];omega
theorem UQ(h:bit x i=0):kV x i|||2^i=kV x (i+1):=by rw[OO,h,v_ (yu x i)];omega
theorem O1(h:bit x i≠0):kV x i=kV x (i+1):=by have:=k7 x i;rw[OO,show bit x i=1 by omega];omega
theorem L6(hx:x<ak):kV x 256=ak-1-x:=by unfold kV;rw[<-dj,bp hx]
theorem zJ(x i:Nat):x/2^i=2*(x/2^(i+1))+bit x i:=by unfold bit;rw[fG,<-Nat.div_div_eq_div_mul];omega
theorem Jz(h:x/2^(j+1)=y/2^(j+1))(hb:bit x j=bit y j):x/2^j=y/2^j:=by rw[zJ x j,zJ y j,h,hb]
theorem Mf(h:x/2^(j+1)=y/2^(j+1))(hb:bit x j<bit y j):x<y:=by
 rcases fQ x y with h'|h'
 exact h';have:=Nat.div_le_div_right (c:=2^j) h';rw[zJ x j,zJ y j,h]at this;omega
theorem Ij(h:x/2^(j+1)=y/2^(j+1))(hb:bit y j<bit x j):¬x<y:=by have:=Mf h.symm hb;omega
theorem CU(hx:x<ak)(hy:y<ak):x/2^256=y/2^256:=by rw[<-dj,eY hx,eY hy]
theorem Aj(x k:Nat):x/2^(64*k)=18446744073709551616*(x/2^(64*(k+1)))+wd x k:=by unfold wd;rw[uG,<-Nat.div_div_eq_div_mul];omega
theorem G7(h:x/2^(64*(k+1))=y/2^(64*(k+1)))(hb:wd x k=wd y k):x/2^(64*k)=y/2^(64*k):=by rw[Aj x k,Aj y k,h,hb]
theorem MY(h:x/2^(64*(k+1))=y/2^(64*(k+1)))(hb:wd x k<wd y k):x<y:=by
 rcases fQ x y with h'|h'
 exact h';have:=Nat.div_le_div_right (c:=2^(64*k)) h';rw[Aj x k,Aj y k,h]at this;omega
def cmp(x y:Nat):Int:=if x<y then -1 else if y<x then 1 else 0
theorem PV(h:x/2^(64*(k+1))=y/2^(64*(k+1)))(hb:wd x k≠wd y k):cmp (wd x k) (wd y k)=cmp x y:=by
 unfold cmp;rcases fQ (wd x k) (wd y k)with h'|h'
 rw[aj h',aj (MY h h')];have h2:=MY h.symm (show wd y k<wd x k by omega);rw[ah (by omega),aj (by omega),ah (by omega),aj h2]
theorem Ho(h:x/2^(64*(0+1))=y/2^(64*(0+1))):cmp (wd x 0) (wd y 0)=cmp x y:=by by_cases hb:wd x 0=wd y 0;have:=G7 h hb;simp at this;subst this;simp[cmp];exact PV h hb
def up(x n:Nat):Nat:=x<<<n%ak
def down(x n:Nat):Nat:=x>>>n
theorem rr(x n:Nat):up x n<ak:=bq _ (by decide)
theorem Ed(hx:x<ak)(n:Nat):down x n<ak:=by unfold down;rw[jx];exact eH (f' _ _) hx
theorem uQ(x n i:Nat):(up x n).testBit i=(decide (i<256)&&(decide (n<=i)&&x.testBit (i-n))):=by unfold up;rw[dj,pT,kZ]
theorem Iz(x n i:Nat):(down x n).testBit i=x.testBit (n+i):=by unfold down;rw[pE]
theorem Fg(x n k j:Nat)(hk:k<4):(wd (up x n) k).testBit j=(decide (j<64)&&(decide (n<=64*k+j)&&x.testBit (64*k+j-n))):=by
 rw[lC,uQ];by_cases hj:j<64
 ·have:64*k+j<256:=by omega
  simp[hj,this]
 simp[hj]
theorem Dm(x n k j:Nat):(wd (down x n) k).testBit j=(decide (j<64)&&x.testBit (n+(64*k+j))):=by rw[lC,Iz]
theorem EW(v j:Nat):(v%18446744073709551616).testBit j=(decide (j<64)&&v.testBit j):=by rw[show(18446744073709551616:Nat)=2^64 by decide,pT]
theorem tI(x n k:Nat)(hk:k<4)(h:n/64<k):wd (up x n) k=(wd x (k-n/64)<<<(n%64))%18446744073709551616|||wd x (k-n/64-1)>>>(64-n%64):=by
 apply iO;intro j;rw[Fg x n k j hk,k_,EW,kZ,pE,lC,lC];have hm:n%64<64:=bq _ (by decide);by_cases hj:j<64
 ·by_cases h1:n%64<=j
  ·have h2:n<=64*k+j:=by omega
   have h3:64*(k-n/64)+(j-n%64)=64*k+j-n:=by omega
   have h4:¬(64-n%64+j<64):=by omega
   have h5:j-n%64<64:=by omega
   simp[hj,h1,h2,h3,h4,h5]
  ·have h2:n<=64*k+j:=by omega
   have h3:64*(k-n/64-1)+(64-n%64+j)=64*k+j-n:=by omega
   have h4:64-n%64+j<64:=by omega
   simp[hj,h1,h2,h3,h4]
 ·have h4:¬(64-n%64+j<64):=by omega
  simp[hj,h4]
theorem EP(x n k:Nat)(hk:k<4)(h:n/64=k):wd (up x n) k=(wd x (k-n/64)<<<(n%64))%18446744073709551616:=by
 apply iO;intro j;rw[Fg x n k j hk,EW,kZ,lC];have hm:n%64<64:=bq _ (by decide);by_cases hj:j<64
 ·by_cases h1:n%64<=j
  ·have h2:n<=64*k+j:=by omega
   have h3:64*(k-n/64)+(j-n%64)=64*k+j-n:=by omega
   have h5:j-n%64<64:=by omega
   simp[hj,h1,h2,h3,h5]
  ·have h2:¬(n<=64*k+j):=by omega
   simp[h1,h2]
 simp[hj]
theorem Pj(x n k:Nat)(hk:k<4)(h:k<n/64):wd (up x n) k=0:=by
 apply iO;intro j;rw[Fg x n k j hk,Nat.zero_testBit];by_cases hj:j<64
 ·have h2:¬(n<=64*k+j):=by omega
  simp[h2]
 simp[hj]
theorem yY(x n k:Nat):wd (down x n) k=wd x (k+n/64)>>>(n%64)|||(wd x (k+n/64+1)<<<(64-n%64))%18446744073709551616:=by
 apply iO;intro j;rw[Dm,k_,EW,kZ,pE,lC,lC];have hm:n%64<64:=bq _ (by decide);by_cases hj:j<64
 ·by_cases h1:n%64+j<64
  ·have h3:64*(k+n/64)+(n%64+j)=n+(64*k+j):=by omega
   have h4:¬(64-n%64<=j):=by omega
   simp[hj,h1,h3,h4]
  ·have h3:64*(k+n/64+1)+(j-(64-n%64))=n+(64*k+j):=by omega
   have h4:64-n%64<=j:=by omega
   have h5:j-(64-n%64)<64:=by omega
   simp[hj,h1,h3,h4,h5]
 ·have h1:¬(n%64+j<64):=by omega
  simp[hj,h1]
theorem FY(hx:x<ak){i:Nat}(hi:256<=i):x.testBit i=false:=
 Nat.testBit_lt_two_pow (b_ hx (by rw[dj];exact iW (by decide) hi))
theorem F'(hx:x<ak)(n k:Nat)(h:k+n/64=3):wd (down x n) k=wd x (k+n/64)>>>(n%64):=by
 apply iO;intro j;rw[Dm,pE,lC];have hm:n%64<64:=bq _ (by decide);by_cases hj:j<64
 ·by_cases h1:n%64+j<64
  ·have h3:64*(k+n/64)+(n%64+j)=n+(64*k+j):=by omega
   simp[hj,h1,h3]
  have h3:=FY hx (show 256<=n+(64*k+j) by omega);simp[h1,h3]
 ·have h1:¬(n%64+j<64):=by omega
  simp[hj,h1]
theorem Ns(hx:x<ak)(n k:Nat)(h:4<=k+n/64):wd (down x n) k=0:=by apply iO;intro j;rw[Dm,Nat.zero_testBit];have h3:=FY hx (show 256<=n+(64*k+j) by omega);simp[h3]
theorem xP(hx:x<ak):up x 0=x:=by simp[up,Nat.mod_eq_of_lt hx]
theorem P0(x:Nat):down x 0=x:=by simp[down]
theorem up_add(x n m:Nat):up (up x n) m=up x (n+m):=by
 apply iO;intro i;rw[uQ,uQ,uQ];by_cases hi:i<256
 ·by_cases h1:m<=i
  ·have h2:i-m<256:=by omega
   have h3:i-m-n=i-(n+m):=by omega
   have h4:(n<=i-m)↔(n+m<=i):=by omega
   simp[hi,h1,h2,h3,h4]
  ·have h2:¬(n+m<=i):=by omega
   simp[h1,h2]
 simp[hi]
theorem P8(x n m:Nat):down (down x n) m=down x (n+m):=by unfold down;rw[Nat.shiftRight_add]
theorem Eb(x:Nat){n:Nat}(h:256<=n):up x n=0:=by
 apply iO;intro i;rw[uQ,Nat.zero_testBit];by_cases hi:i<256
 ·have h2:¬(n<=i):=by omega
  simp[h2]
 simp[hi]
theorem Hr(hx:x<ak){n:Nat}(h:256<=n):down x n=0:=by apply iO;intro i;rw[Iz,Nat.zero_testBit,FY hx (by omega)]
theorem xB(y:Nat):wd (up y 64) 0=0/\wd (up y 64) 1=wd y 0/\wd (up y 64) 2=wd y 1/\wd (up y 64) 3=wd y 2:=by refine⟨Pj y 64 0 (by omega) (by omega),?_,?_,?_⟩;rw[EP y 64 1 (by omega) (by omega)];simp;exact ft y 0;rw[tI y 64 2 (by omega) (by omega)];have h1:wd y 0>>>64=0:=Nat.shiftRight_eq_zero _ _ (ft y 0);simp[h1];exact ft y 1;rw[tI y 64 3 (by omega) (by omega)];have h1:wd y 1>>>64=0:=Nat.shiftRight_eq_zero _ _ (ft y 1);simp[h1];exact ft y 2
theorem P9(hy:y<ak):wd (down y 64) 0=wd y 1/\wd (down y 64) 1=wd y 2/\wd (down y 64) 2=wd y 3/\wd (down y 64) 3=0:=by
 have z:∀v:Nat,v<<<64%18446744073709551616=0:=fun v=>by rw[jz];omega
 refine⟨?_,?_,?_,Ns hy 64 3 (by omega)⟩;rw[yY y 64 0];simp[z];rw[yY y 64 1];simp[z];rw[F' hy 64 2 (by omega)];simp
theorem wA(a b m:Nat)(hm:m<=64)(hb:b<18446744073709551616):a<<<m%18446744073709551616+b>>>(64-m)=a<<<m%18446744073709551616|||b>>>(64-m):=by
 have h1:b>>>(64-m)<2^m:=by
  rw[jx,ie (dr (by decide)),<-Nat.pow_add,show m+(64-m)=64 by omega];exact hb
 have h2:a<<<m%18446744073709551616=2^m*(a%2^(64-m)):=by
  rw[jz,gd,show(18446744073709551616:Nat)=2^m*2^(64-m) by rw[<-Nat.pow_add,show m+(64-m)=64 by omega],Nat.mul_mod_mul_left]
 rw[h2,oh h1]
theorem Kl(a b m:Nat)(hm:m<=64)(ha:a<18446744073709551616):a>>>m+b<<<(64-m)%18446744073709551616=a>>>m|||b<<<(64-m)%18446744073709551616:=by have:=wA b a (64-m) (by omega) ha;rw[show 64-(64-m)=m by omega]at this;rw[gx,this,Nat.or_comm]
theorem Cf(ha:a<18446744073709551616)(hb:b<18446744073709551616):(a|||b)<18446744073709551616:=Nat.or_lt_two_pow (n:=64) ha hb
theorem tF(x n:Nat):up x n=x*2^n%ak:=by unfold up;rw[jz]
theorem Ew(x n:Nat):down x n=x/2^n:=by unfold down;rw[jx]
def mv(x:Nat)(b:Int):Nat:=if b<0 then down x (8*(-b).toNat)else up x (8*b.toNat)
theorem B4(hx:x<ak)(b:Int):mv x b<ak:=by unfold mv;split;exact Ed hx _;exact rr _ _
def oG(bits:Nat):Nat:=mv (bits%8388608) ((bits/16777216:Nat)-3)
def j5(bits:Nat):Bool:=decide (0<bits%8388608)&&decide (bits/8388608%2=1)
def ib(bits:Nat):Bool:=decide (0<bits%8388608/\34<bits/16777216\/255<bits%8388608/\33<bits/16777216\/65535<bits%8388608/\32<bits/16777216)
def bl(x:Nat):Nat:=(len x+7)/8
def qP(x:Nat):Nat:=mv x (3-(bl x:Nat))%18446744073709551616
def enc(x:Nat):Nat:=if qP x<8388608 then bl x*16777216+qP x else(bl x+1)*16777216+qP x/256
theorem vq(x:Nat):x<2^len x:=(lD x).1
theorem CW(hx:x<ak):len x<=256:=ll (by rw[<-dj];exact hx)
theorem pv(h:a<=b):2^a<=2^b:=iW (by decide) h
theorem yZ:qP x=if bl x<=3 then x*2^(8*(3-bl x))else x/2^(8*(bl x-3)):=by
 have hi:=vq x;have hb:8*bl x >= len x:=by unfold bl;omega
 unfold qP mv;by_cases h:bl x<=3
 ·have h1:x*2^(8*(3-bl x))<2^24:=by
   have h1:x*2^(8*(3-bl x))<2^len x*2^(8*(3-bl x)):=nQ hi (dr (by decide));rw[<-Nat.pow_add]at h1;have h2:2^(len x+8*(3-bl x))<=2^24:=pv (by omega);omega
  rw[ah (by omega),aj h,show(3-(bl x:Nat):Int).toNat=3-bl x by omega,tF,bp (a:=x*_) (by unfold ak;omega),bp (by omega)]
 rw[aj (by omega),ah h,show(-(3-(bl x:Nat)):Int).toNat=bl x-3 by omega,Ew,bp];rw[ie (dr (by decide))];have h2:2^len x<=2^(24+8*(bl x-3)):=pv (by omega);rw[kN]at h2;omega
theorem LM:qP x<16777216:=by
 have hi:=vq x;have hb:8*bl x >= len x:=by unfold bl;omega
 rw[yZ];by_cases h:bl x<=3;rw[aj h];have h1:x*2^(8*(3-bl x))<2^len x*2^(8*(3-bl x)):=nQ hi (dr (by decide));rw[<-Nat.pow_add]at h1;have h2:2^(len x+8*(3-bl x))<=2^24:=pv (by omega);omega;rw[ah h,ie (dr (by decide))];have h2:2^len x<=2^(24+8*(bl x-3)):=pv (by omega);rw[kN]at h2;omega
theorem yE:bl 0=0:=rfl
theorem BG(x i:Nat):bl (x%2^(8*(i+1)))=if 0<x/2^(8*i)%256 then i+1 else bl (x%2^(8*i)):=by
 have e:x%2^(8*(i+1))=x%2^(8*i)+2^(8*i)*(x/2^(8*i)%256):=by
  rw[show 8*(i+1)=8*i+8 by omega,kN,iw]
 have hm:=bq x (show 0<2^(8*i)from dr (by decide));have hb:=bq (x/2^(8*i)) (show 0<256 by decide);split
 ·rename_i h;have h1:len (x%2^(8*(i+1)))<=8*(i+1):=ll (bq _ (dr (by decide)))
  have h2:8*i<len (x%2^(8*(i+1))):=by
   rcases fQ (8*i) (len (x%2^(8*(i+1))))with h'|h'
   exact h';have h3:=EJ h';rw[e]at h3;have:2^(8*i)*1<=2^(8*i)*(x/2^(8*i)%256):=nU _ h;omega
  unfold bl;omega
 ·rename_i h;rw[e,show x/2^(8*i)%256=0 by omega];simp
theorem xz(x:Nat):bl (x%2^(8*0))=0:=by simp[Nat.mod_one,yE]
theorem FT(hx:x<ak):bl (x%2^(8*32))=bl x:=by rw[bp (by rw[show 2^(8*32)=ak by decide];exact hx)]
theorem C7(hx:x<ak):bl x<=32:=by have:=CW hx;unfold bl;omega
structure QI (a b t out rest:Nat):Prop where
 sum:a=out*b+rest
 low:out%2^t=0
 rest:rest<b*2^t
theorem QI.take(h:QI a b (i+1) out rest)(hd:b*2^i<=rest):QI a b i (out|||2^i) (rest-b*2^i):=by
 have hlow:=h.low;have hrest:=h.rest;rw[GI h.low];have hp:2^(i+1)=2^i*2:=fG 2 i;refine⟨?_,?_,?_⟩;rw[fN,gd (2^i)];have:=h.sum;omega
 ·have h1:out%2^i=0:=by
   rw[hp]at hlow;have:=Nat.mod_mul_right_mod out (2^i) 2;rw[hlow]at this;simpa using this.symm
  rw[oe,h1]
 rw[hp,<-Nat.mul_assoc]at hrest;omega
theorem QI.skip(h:QI a b (i+1) out rest)(hd:rest<b*2^i):QI a b i out rest:=by have hlow:=h.low;refine⟨h.sum,?_,hd⟩;rw[fG]at hlow;have:=Nat.mod_mul_right_mod out (2^i) 2;rw[hlow]at this;simpa using this.symm
theorem QI.done(h:QI a b 0 out rest):out=a/b/\rest=a%b:=by
 have hr:=h.rest;rw[Nat.pow_zero,fx]at hr;have hb:0<b:=by omega
 constructor;rw[h.sum,gd,gK hb,eY hr,iv];rw[h.sum,gd,Nat.mul_add_mod,bp hr]
theorem QI.Yu(h:QI a b t out rest):rest<=a:=by have:=h.sum;omega
theorem QI.start(t:Nat)(h:a<b*2^t):QI a b t 0 a:=⟨by omega,Nat.zero_mod _,h⟩
theorem JG(h:x*2^n<ak):up x n=x*2^n:=by unfold up;rw[jz,bp h]
theorem Hi(hl:len b<=len a):a<b*2^(len a-len b+1)\/b=0:=by
 by_cases hb:b=0;exact .inr hb
 ·left;have h1:=(lD a).1;have hlb:len b≠0:=fun e=>by have:=(lD b).1;rw[e]at this;simp at this;exact hb this
  have h2:=(lD b).2 hlb;have h3:2^(len b-1)*2^(len a-len b+1)=2^len a:=by rw[<-Nat.pow_add];congr 1;omega
  have h4:2^(len b-1)*2^(len a-len b+1)<=b*2^(len a-len b+1):=jN _ h2;omega
theorem Jh(ha:a<ak)(hl:len b<=len a){k:Nat}(hk:k<=len a-len b):b*2^k<ak:=by have h1:=(lD b).1;have h2:len a<=256:=ll (by rw[<-dj];exact ha);have h3:b*2^k<2^len b*2^k:=nQ h1 (dr (by decide));rw[<-Nat.pow_add]at h3;rw[dj];exact b_ h3 (iW (by decide) (by omega))
theorem Nh(hl:len a<len b):a<b:=by have h1:=(lD a).1;have h2:=(lD b).2 (by omega);have h3:2^len a<=2^(len b-1):=iW (by decide) (by omega);omega
def hw(M j:Nat):Nat:=M/4294967296^j%4294967296
theorem mU(M j:Nat):hw M j<4294967296:=bq _ (by decide)
def hc(n a i:Nat):Nat:=n%4294967296^i*a/4294967296^i
theorem AR(n a:Nat):hc n a 0=0:=by simp[hc,Nat.mod_one]
theorem yk(i:Nat):0<4294967296^i:=dr (by decide)
theorem uY(n a i:Nat):hc n a i<=a:=by unfold hc;refine Nat.div_le_of_le_mul ?_;exact jN _ (Nat.le_of_lt (bq _ (yk i)))
theorem o6(n a i:Nat):hw n i*a+hc n a i=n%4294967296^(i+1)*a/4294967296^i:=by have hp:=yk i;unfold hw hc;rw[fG];generalize 4294967296^i=P at*;rw[iw,fN,jc,nY _ _ hp,gx]
theorem DO(n a i:Nat):(hw n i*a+hc n a i)%4294967296=hw (n*a) i:=by
 rw[o6];have hp:=yk i;unfold hw;rw[fG];generalize 4294967296^i=P at*
 have e:n*a=n%(P*4294967296)*a+P*(4294967296*(n/(P*4294967296)*a)):=by
  have:=Nat.mod_add_div n (P*4294967296)
  calc n*a=(n%(P*4294967296)+P*4294967296*(n/(P*4294967296)))*a:=by rw[this]
   _=_:=by rw[fN,jc P,jc P,jc 4294967296]
 generalize n%(P*4294967296)*a=X at*;generalize n/(P*4294967296)*a=Y at*;rw[e,nY _ _ hp];omega
theorem FA(n a i:Nat):(hw n i*a+hc n a i)/4294967296=hc n a (i+1):=by rw[o6];unfold hc;rw[nM,fG]
def hr(M o i:Nat):Nat:=M/4294967296^i%o
theorem Hj{o:Nat}(M i:Nat)(ho:0<o):hr M o i<o:=bq _ ho
theorem xw(M i o:Nat)(ho:0<o):(hr M o (i+1)*4294967296+hw M i)/o=hw (M/o) i/\(hr M o (i+1)*4294967296+hw M i)%o=hr M o i:=by
 unfold hr hw;rw[fG,<-Nat.div_div_eq_div_mul,nM M o,gd o,<-Nat.div_div_eq_div_mul];generalize M/4294967296^i=X;obtain⟨Y,hY⟩:∃Y,Y=X/4294967296:=⟨_,rfl⟩;obtain⟨d,hd⟩:∃d,d=X%4294967296:=⟨_,rfl⟩;obtain⟨r,hr⟩:∃r,r=Y%o:=⟨_,rfl⟩;obtain⟨k,hk⟩:∃k,k=Y/o:=⟨_,rfl⟩;have h1:X=Y*4294967296+d:=by omega
 have h2:o*k+r=Y:=by rw[hk,hr];exact jv Y o
 have hlt:r<o:=by rw[hr];exact bq _ ho
 have hd2:d<4294967296:=by omega
 rw[<-hY,<-hd,<-hr]
 have e:X=o*(k*4294967296)+(r*4294967296+d):=by
  rw[h1,<-h2,fN,jc,Nat.add_assoc]
 have hv:r*4294967296+d<o*4294967296:=by
  have:(r+1)*4294967296<=o*4294967296:=jN _ hlt;omega
 clear h1 h2 hd hY hr hk;generalize r*4294967296+d=V at*;rw[e,gK ho,Nat.mul_add_mod];have h3:V/o<4294967296:=Nat.div_lt_of_lt_mul hv;generalize V/o=z at*;exact⟨by omega,rfl⟩
theorem Bp(n k:Nat):wd n k%4294967296=hw n (2*k):=by unfold wd hw;rw[show(18446744073709551616:Nat)=4294967296*4294967296 by decide,Nat.mod_mul_left_mod,show 2^(64*k)=4294967296^(2*k) by rw[show(4294967296:Nat)=2^32 by decide,<-Nat.pow_mul];congr 1;omega]
theorem Oc(n k:Nat):wd n k/4294967296%4294967296=hw n (2*k+1):=by unfold wd hw;rw[show(18446744073709551616:Nat)=4294967296*4294967296 by decide,Nat.mod_mul_right_div_self,Nat.mod_mod,fG,<-Nat.div_div_eq_div_mul,show 2^(64*k)=4294967296^(2*k) by rw[show(4294967296:Nat)=2^32 by decide,<-Nat.pow_mul];congr 1;omega]
theorem tv(k:Nat):(4294967296:Nat)^(2*k)=2^(64*k):=by rw[show(4294967296:Nat)=2^32 by decide,<-Nat.pow_mul];congr 1;omega
theorem pU(Q k:Nat):Q%4294967296^(k+1)=Q%4294967296^k+4294967296^k*hw Q k:=by unfold hw;rw[fG,iw]
theorem x7(Q k:Nat):Q%4294967296^k<4294967296^k:=bq _ (yk k)
theorem uU(Q m:Nat):wd (Q%4294967296^(2*m)) m=0/\wd (Q%4294967296^(2*m+1)) m=hw Q (2*m):=by
 have h1:=x7 Q (2*m);have h2:=mU Q (2*m);rw[pU];unfold wd;rw[<-tv];generalize 4294967296^(2*m)=P at*;generalize Q%P=Z at*;generalize hw Q (2*m)=h at*;have hP:0<P:=by omega
 rw[eY h1,nY _ _ hP,eY h1];omega
theorem DA(Q m:Nat):wd (Q%4294967296^(2*m+2)) m=hw Q (2*m)+hw Q (2*m+1)*4294967296:=by
 have h1:=x7 Q (2*m);have h2:=mU Q (2*m);have h3:=mU Q (2*m+1);rw[pU,pU];unfold wd;rw[<-tv,fG];generalize 4294967296^(2*m)=P at*;generalize Q%P=Z at*;generalize hw Q (2*m)=h at*;generalize hw Q (2*m+1)=g at*;have hP:0<P:=by omega
 rw[jc,Nat.add_assoc,<-Nat.mul_add,nY _ _ hP,eY h1];omega
theorem x6(Q k j:Nat)(hj:j≠k/2):wd (Q%4294967296^(k+1)) j=wd (Q%4294967296^k) j:=by
 have h1:=x7 Q k;have h2:=x7 Q (k+1);by_cases hlt:j<k/2
 ·rw[pU];unfold wd;obtain⟨d,hd⟩:∃d,k=2*(j+1)+d:=⟨k-2*(j+1),by omega⟩
  have e:4294967296^k=2^(64*j)*(18446744073709551616*4294967296^d):=by
   rw[hd,kN,tv,show 64*(j+1)=64*j+64 by omega,kN,jc]
  rw[e,jc,nY _ _ (dr (by decide)),jc,Nat.add_mul_mod_self_left]
 ·have hk:k+1<=2*j:=by omega
  have hp:4294967296^(k+1)<=2^(64*j):=by rw[<-tv];exact iW (by decide) hk
  have hp2:4294967296^k<=4294967296^(k+1):=iW (by decide) (by omega);unfold wd;rw[eY (by omega),eY (by omega)]
theorem Pn(Q:Nat):Q%4294967296^8=Q%ak:=by rw[dj,show(2:Nat)^256=4294967296^8 by decide]
theorem Fq{Q:Nat}(hQ:Q<4294967296^10):(hw Q 8=0/\hw Q 9=0)↔Q<ak:=by
 rw[dj,show(2:Nat)^256=4294967296^8 by decide];unfold hw;have e9:(4294967296:Nat)^9=4294967296^8*4294967296:=by decide
 have e10:(4294967296:Nat)^10=4294967296^8*(4294967296*4294967296):=by decide
 rw[e10]at hQ;rw[e9,<-Nat.div_div_eq_div_mul];have hp:0<(4294967296:Nat)^8:=by decide
 generalize(4294967296:Nat)^8=P at*;have h1:Q/P<4294967296*4294967296:=Nat.div_lt_of_lt_mul hQ
 have h2:Q<P↔Q/P=0:=by
  constructor;exact eY;intro h;have:=jv Q P;rw[h]at this;have:=bq Q hp;omega
 rw[h2];generalize Q/P=X at*;omega
