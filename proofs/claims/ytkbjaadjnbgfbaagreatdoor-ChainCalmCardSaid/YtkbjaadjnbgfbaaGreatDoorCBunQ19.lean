import Init
set_option maxRecDepth 100000
set_option maxHeartbeats 4000000
namespace Go.Proofs.YtkbjaadjnbgfbaaGreatDoor.NN.Nm
def wd(x i:Nat):Nat:=x/2^(64*i)%18446744073709551616
def ai:Nat:=115792089237316195423570985008687907853269984665640564039457584007913129639936
theorem bJ:ai=2^256:=by decide
theorem dj(x i:Nat):wd x i<18446744073709551616:=Nat.mod_lt _ (by decide)
theorem nG(x:Nat):wd x 0=x%18446744073709551616:=by simp[wd]
theorem sg(x:Nat):wd x 1=x/18446744073709551616%18446744073709551616:=by simp[wd]
theorem p9(x:Nat):wd x 2=x/340282366920938463463374607431768211456%18446744073709551616:=by simp[wd]
theorem qP(x:Nat):wd x 3=x/6277101735386680763835789423207666416102355444464034512896%18446744073709551616:=by simp[wd]
variable{k x y b i n m t j a out rest:Nat}
theorem four(h:k<4):k=0\/k=1\/k=2\/k=3:=by omega
theorem q_(x:Nat)(h:x<ai):x=wd x 0+18446744073709551616*wd x 1+340282366920938463463374607431768211456*wd x 2+6277101735386680763835789423207666416102355444464034512896*wd x 3:=by rw[nG,sg,p9,qP];unfold ai at h;omega
theorem AS(hx:x<ai)(hy:y<ai)(h:∀i,i<4->wd x i=wd y i):x=y:=by rw[q_ x hx,q_ y hy,h 0 (by omega),h 1 (by omega),h 2 (by omega),h 3 (by omega)]
theorem A5(x:Nat){i:Nat}(hi:i<4):wd (x%ai) i=wd x i:=by
 unfold ai;rcases four hi with rfl|rfl|rfl|rfl
 rw[nG,nG];omega;rw[sg,sg];omega;rw[p9,p9];omega;rw[qP,qP];omega
def carry(x y k:Nat):Nat:=(x%2^(64*k)+y%2^(64*k))/2^(64*k)
theorem Ig(x y k:Nat):carry x y k<=1:=by
 have hP:0<2^(64*k):=Nat.pow_pos (by decide);have:=Nat.mod_lt x hP;have:=Nat.mod_lt y hP;unfold carry;have:(x%2^(64*k)+y%2^(64*k))/2^(64*k)<2:=by rw[Nat.div_lt_iff_lt_mul hP];omega
 omega
theorem Qk(x y:Nat):carry x y 0=0:=by simp[carry,Nat.mod_one]
theorem pg(k:Nat):2^(64*(k+1))=2^(64*k)*18446744073709551616:=by rw[show 64*(k+1)=64*k+64 by omega,Nat.pow_add]
theorem OA(x y k:Nat):carry x y (k+1)=(wd x k+wd y k+carry x y k)/18446744073709551616:=by
 unfold carry wd;rw[pg];generalize 2^(64*k)=P;rw[Nat.mod_mul,Nat.mod_mul,<-Nat.div_div_eq_div_mul];by_cases hP:P=0;subst hP;simp
 ·have h:(x%P+P*(x/P%18446744073709551616)+(y%P+P*(y/P%18446744073709551616)))/P=x/P%18446744073709551616+y/P%18446744073709551616+(x%P+y%P)/P:=by
   rw[show x%P+P*(x/P%18446744073709551616)+(y%P+P*(y/P%18446744073709551616))=P*(x/P%18446744073709551616+y/P%18446744073709551616)+(x%P+y%P) by rw[Nat.mul_add];omega,
    Nat.mul_add_div (by omega)]
  rw[h]
theorem AF(x y k:Nat):wd (x+y) k=(wd x k+wd y k+carry x y k)%18446744073709551616:=by
 unfold carry wd;generalize Tq:2^(64*k)=P;have hP:0<P:=by rw[<-Tq];exact Nat.pow_pos (by decide)
 have h:(x+y)/P=x/P+y/P+(x%P+y%P)/P:=by
  have e:x+y=P*(x/P+y/P)+(x%P+y%P):=by
   have:=Nat.div_add_mod x P;have:=Nat.div_add_mod y P;rw[Nat.mul_add];omega
  conv=>lhs;rw[e]
  rw[Nat.mul_add_div hP]
 rw[h];omega
theorem PT(hx:x<ai)(hy:y<ai):carry x y 4=(x+y)/ai:=by unfold carry;rw[show 2^(64*4)=ai from by decide,Nat.mod_eq_of_lt hx,Nat.mod_eq_of_lt hy]
def borrow(x y k:Nat):Nat:=if x%2^(64*k)<y%2^(64*k)then 1 else 0
theorem E'(x y k:Nat):borrow x y k<=1:=by unfold borrow;split<;>omega
theorem Qc(x y:Nat):borrow x y 0=0:=by simp[borrow,Nat.mod_one]
theorem Ni(x y k:Nat):borrow x y (k+1)=if wd x k<wd y k+borrow x y k then 1 else 0:=by
 unfold borrow wd;rw[pg];generalize Tq:2^(64*k)=P;have hP:0<P:=by rw[<-Tq];exact Nat.pow_pos (by decide)
 rw[Nat.mod_mul,Nat.mod_mul];have hx:=Nat.mod_lt x hP;have hy:=Nat.mod_lt y hP;generalize x/P%18446744073709551616=a;generalize y/P%18446744073709551616=b;generalize x%P=c at*;generalize y%P=d at*;congr 1;apply propext;rcases Nat.lt_trichotomy a b with h|h|h
 ·have:P*(a+1)<=P*b:=Nat.mul_le_mul_left P h;rw[Nat.mul_add]at this;constructor
  ·intro _;split<;>omega
  intro _;omega
 ·subst h;constructor
  ·intro _;split<;>omega
  ·intro h;split at h<;>omega
 ·have:P*(b+1)<=P*a:=Nat.mul_le_mul_left P h;rw[Nat.mul_add]at this;constructor;intro _;omega
  ·intro h;split at h<;>omega
theorem CH(x y:Nat)(hx:x<ai)(hy:y<ai){k:Nat}(hk:k<4):wd (x+ai-y) k=(wd x k+18446744073709551616-wd y k-borrow x y k)%18446744073709551616:=by
 unfold borrow ai at*;rcases four hk with rfl|rfl|rfl|rfl
 rw[nG,nG,nG];simp only[Nat.mul_zero,Nat.pow_zero,Nat.mod_one];rw[if_neg (by omega)];omega
 ·rw[sg,sg,sg];simp only[Nat.mul_one,Nat.reducePow];split<;>omega
 ·rw[p9,p9,p9];simp only[Nat.reduceMul,Nat.reducePow];split<;>omega
 ·rw[qP,qP,qP];simp only[Nat.reduceMul,Nat.reducePow];split<;>omega
theorem ML(hx:x<ai)(hy:y<ai):borrow x y 4=if x<y then 1 else 0:=by unfold borrow;rw[show 2^(64*4)=ai from by decide,Nat.mod_eq_of_lt hx,Nat.mod_eq_of_lt hy]
def over(x b k:Nat):Nat:=x%2^(64*k)*b/2^(64*k)
theorem PD(x b:Nat):over x b 0=0:=by simp[over,Nat.mod_one]
theorem t_(x b k:Nat)(hb:0<b):over x b k<b:=by have hP:0<2^(64*k):=Nat.pow_pos (by decide);unfold over;rw[Nat.div_lt_iff_lt_mul hP,Nat.mul_comm b];exact Nat.mul_lt_mul_of_pos_right (Nat.mod_lt x hP) hb
theorem Ql(x b k:Nat):over x b (k+1)=(wd x k*b+over x b k)/18446744073709551616:=by
 unfold over wd;rw[pg];generalize Tq:2^(64*k)=P;have hP:0<P:=by rw[<-Tq];exact Nat.pow_pos (by decide)
 rw[Nat.mod_mul,<-Nat.div_div_eq_div_mul,Nat.add_mul,Nat.add_comm (x%P*b),Nat.mul_assoc,Nat.mul_add_div hP]
theorem Ad(x b k:Nat):wd (x*b) k=(wd x k*b+over x b k)%18446744073709551616:=by
 unfold over wd;generalize Tq:2^(64*k)=P;have hP:0<P:=by rw[<-Tq];exact Nat.pow_pos (by decide)
 have h:x*b/P=x/P*b+x%P*b/P:=by
  conv=>lhs;rw[<-Nat.div_add_mod x P,Nat.add_mul,Nat.mul_assoc,Nat.mul_add_div hP]
 rw[h,<-Nat.add_mod_mod,<-Nat.mod_add_mod,<-Nat.mod_mul_mod,Nat.mod_add_mod,Nat.add_mod_mod]
theorem Qm(hx:x<ai):over x b 4=x*b/ai:=by unfold over;rw[show 2^(64*4)=ai from by decide,Nat.mod_eq_of_lt hx]
def bit(x i:Nat):Nat:=x/2^i%2
theorem El(x i:Nat):bit x i=(x.testBit i).toNat:=by unfold bit;rw[Nat.toNat_testBit]
theorem gZ(x i j:Nat):(wd x i).testBit j=(decide (j<64)&&x.testBit (64*i+j)):=by unfold wd;rw[show(18446744073709551616:Nat)=2^64 by decide,Nat.testBit_mod_two_pow,Nat.testBit_div_two_pow];rw[Nat.add_comm]
theorem Ae(x i:Nat):wd x (i/64)/2^(i%64)%2=bit x i:=by rw[show wd x (i/64)/2^(i%64)%2=bit (wd x (i/64)) (i%64)from rfl,El,El,gZ];have:i%64<64:=Nat.mod_lt _ (by decide);rw[show 64*(i/64)+i%64=i from Nat.div_add_mod i 64];simp[this]
theorem gV(x i:Nat):bit x i<2:=Nat.mod_lt _ (by decide)
theorem Ao(x i:Nat):x%2^(i+1)=2^i*bit x i+x%2^i:=by unfold bit;rw[Nat.pow_succ,Nat.mod_mul];omega
theorem qe(h:x<2^i):x|||2^i=2^i+x:=by have:=Nat.two_pow_add_eq_or_of_lt h 1;rw[Nat.mul_one]at this;rw[this,Nat.or_comm]
theorem Be(h:x%2^(i+1)=0):x|||2^i=x+2^i:=by
 have h2:2^i<2^(i+1):=Nat.pow_lt_pow_right (by decide) (by omega);have:=Nat.two_pow_add_eq_or_of_lt h2 (x/2^(i+1));have e:2^(i+1)*(x/2^(i+1))=x:=by have:=Nat.div_add_mod x (2^(i+1));omega
 rw[e]at this;exact this.symm
theorem Iy(x i j:Nat):wd (x|||2^i) j=if j=i/64 then wd x j|||2^(i%64)else wd x j:=by
 apply Nat.eq_of_testBit_eq;intro m;rw[gZ,Nat.testBit_or,Nat.testBit_two_pow];split
 ·rename_i h;rw[Nat.testBit_or,Nat.testBit_two_pow,gZ];by_cases hm:m<64
  ·have:(i=64*j+m)↔(i%64=m):=by omega
   simp[hm,this]
  ·have:¬(i%64=m):=by omega
   simp[hm,this]
 ·rename_i h;rw[gZ];by_cases hm:m<64
  ·have:¬(i=64*j+m):=by omega
   simp[hm,this]
  simp[hm]
def cp(x y i:Nat):Nat:=(x%2^i+y%2^i)/2^i
def fP(x y i:Nat):Nat:=(x%2^i+y%2^i)%2^i
theorem AA(x y i:Nat):fP x y i<2^i:=Nat.mod_lt _ (Nat.pow_pos (by decide))
theorem M4(x y i:Nat):cp x y i<=1:=by
 have hP:0<2^i:=Nat.pow_pos (by decide);have:=Nat.mod_lt x hP;have:=Nat.mod_lt y hP;unfold cp;have:(x%2^i+y%2^i)/2^i<2:=by rw[Nat.div_lt_iff_lt_mul hP];omega
 omega
theorem zu(x y:Nat):cp x y 0=0/\fP x y 0=0:=by simp[cp,fP,Nat.mod_one]
theorem yN(x y i:Nat):x%2^(i+1)+y%2^(i+1)=2^i*(bit x i+bit y i+cp x y i)+fP x y i:=by rw[Ao,Ao];have:=Nat.div_add_mod (x%2^i+y%2^i) (2^i);unfold cp fP;rw[Nat.mul_add,Nat.mul_add];omega
theorem Ez(x y i:Nat):cp x y (i+1)=(bit x i+bit y i+cp x y i)/2:=by have h:=yN x y i;have hl:=AA x y i;unfold cp at*;rw[h,Nat.pow_succ,<-Nat.div_div_eq_div_mul,Nat.mul_add_div (Nat.pow_pos (by decide)),Nat.div_eq_of_lt hl,Nat.add_zero]
theorem D9(x y i:Nat):fP x y (i+1)=2^i*((bit x i+bit y i+cp x y i)%2)+fP x y i:=by
 have h:=yN x y i;have hl:=AA x y i;have e:fP x y (i+1)=(2^i*(bit x i+bit y i+cp x y i)+fP x y i)%2^(i+1):=by rw[<-h];rfl
 rw[e,Nat.pow_succ,Nat.mod_mul,Nat.mul_add_mod,Nat.mod_eq_of_lt hl,Nat.mul_add_div (Nat.pow_pos (by decide)),Nat.div_eq_of_lt hl,Nat.add_zero,Nat.add_comm]
theorem J4(h:(bit x i+bit y i+cp x y i)%2=1):fP x y i|||2^i=fP x y (i+1):=by rw[D9,h,qe (AA x y i),Nat.mul_one]
theorem Mq(h:(bit x i+bit y i+cp x y i)%2≠1):fP x y i=fP x y (i+1):=by rw[D9,show(bit x i+bit y i+cp x y i)%2=0 by omega,Nat.mul_zero,Nat.zero_add]
theorem Gb(hx:x<ai)(hy:y<ai):fP x y 256=(x+y)%ai:=by unfold fP;rw[<-bJ,Nat.mod_eq_of_lt hx,Nat.mod_eq_of_lt hy]
theorem Nz(hx:x<ai)(hy:y<ai):cp x y 256=(x+y)/ai:=by unfold cp;rw[<-bJ,Nat.mod_eq_of_lt hx,Nat.mod_eq_of_lt hy]
def isLen(x n:Nat):Prop:=x<2^n/\(n≠0->2^(n-1)<=x)
theorem zW(h:isLen x n)(k:x<2^m):n<=m:=by by_cases h0:n=0;omega;have:=h.2 h0;have:2^(n-1)<2^m:=Nat.lt_of_le_of_lt this k;have:=(Nat.pow_lt_pow_iff_right (show 1<2 by decide)).1 this;omega
theorem Qp(h:isLen x n)(k:isLen x m):n=m:=Nat.le_antisymm (zW h k.1) (zW k h.1)
def len(x:Nat):Nat:=if x=0 then 0 else x.log2+1
theorem gX(x:Nat):isLen x (len x):=by
 unfold len isLen;split
 ·rename_i h;subst h;simp
 ·rename_i h;exact⟨Nat.lt_log2_self,fun _=>by rw[Nat.add_sub_cancel];exact Nat.log2_self_le h⟩
theorem pT(h:isLen x n):n=len x:=Qp h (gX x)
theorem ia(k:x<2^m):len x<=m:=zW (gX x) k
theorem Cs(h:len x<=n):x<2^n:=Nat.lt_of_lt_of_le (gX x).1 (Nat.pow_le_pow_right (by decide) h)
theorem JU(h:isLen (x/2^k) n)(h0:x/2^k≠0):isLen x (k+n):=by
 have hP:0<2^k:=Nat.pow_pos (by decide)
 have hn:n≠0:=fun e=>by
  have:=h.1;rw[e]at this;simp at this;exact h0 (Nat.div_eq_of_lt this)
 constructor;rw[Nat.pow_add,Nat.mul_comm];exact(Nat.div_lt_iff_lt_mul hP).1 h.1;intro _;rw[show k+n-1=n-1+k by omega,Nat.pow_add];exact(Nat.le_div_iff_mul_le hP).1 (h.2 hn)
theorem kE(h:x<2^(64*(k+1))):wd x k=x/2^(64*k):=by unfold wd;have hP:0<2^(64*k):=Nat.pow_pos (by decide);rw[pg]at h;exact Nat.mod_eq_of_lt ((Nat.div_lt_iff_lt_mul hP).2 (by rw[Nat.mul_comm];exact h))
theorem J6(h:x<2^(64*(k+1)))(h0:wd x k=0):x<2^(64*k):=by
 rw[kE h]at h0;have hP:0<2^(64*k):=Nat.pow_pos (by decide);rcases Nat.lt_or_ge x (2^(64*k))with h|h
 exact h;have:=Nat.div_pos h hP;omega
def nh(x i:Nat):Nat:=x/2^(8*i)%256
theorem Pq(x i j:Nat):(nh x i).testBit j=(decide (j<8)&&x.testBit (8*i+j)):=by unfold nh;rw[show(256:Nat)=2^8 by decide,Nat.testBit_mod_two_pow,Nat.testBit_div_two_pow,Nat.add_comm]
def bF(f:Nat->Nat):Nat->Nat
 | 0=>0
 | k+1=>bF f k|||f k<<<(8*k)
theorem uW{v:Nat}(hv:v<256)(ht:8<=t):v.testBit t=false:=Nat.testBit_lt_two_pow (Nat.lt_of_lt_of_le hv (Nat.pow_le_pow_right (show 0<2 by decide) ht))
theorem Bb(f:Nat->Nat)(hf:∀i,f i<256):∀(k m:Nat),(bF f k).testBit m=(decide (m<8*k)&&(f (m/8)).testBit (m%8))
 | 0,m=>by simp[bF]
 | k+1,m=>by
  rw[bF,Nat.testBit_or,Bb f hf k m,Nat.testBit_shiftLeft];by_cases h:m<8*k
  ·have h1:m<8*(k+1):=by omega
   have h2:¬(8*k<=m):=by omega
   simp[h,h1,h2]
  ·by_cases h1:m<8*(k+1);have h2:8*k<=m:=(by omega);have h3:m/8=k:=(by omega);have h4:m-8*k=m%8:=(by omega);simp[h,h1,h2,h3,h4];have h2:8*k<=m:=(by omega);have h3:(f k).testBit (m-8*k)=false:=uW (hf k) (by omega);simp[h,h1,h3]
theorem BT(f:Nat->Nat)(hf:∀i,f i<256):∀k,bF f k<2^(8*k)
 | 0=>by simp[bF]
 | k+1=>by
  apply Nat.lt_pow_two_of_testBit;intro i hi;rw[Bb f hf];have:¬(i<8*(k+1)):=by omega
  simp[this]
theorem PX(f:Nat->Nat)(hf:∀i,f i<256){k i:Nat}(hi:i<k):nh (bF f k) i=f i:=by
 apply Nat.eq_of_testBit_eq;intro j;rw[Pq,Bb f hf];by_cases hj:j<8
 ·have h1:8*i+j<8*k:=by omega
  have h2:(8*i+j)/8=i:=by omega
  have h3:(8*i+j)%8=j:=by omega
  simp[hj,h1,h2,h3]
 simp[hj,uW (hf i) (by omega:8<=j)]
theorem OW(x v i j:Nat)(hv:v<256):wd (x|||v<<<(8*i)) j=if j=i/8 then wd x j|||v<<<(8*(i%8))else wd x j:=by
 apply Nat.eq_of_testBit_eq;intro m;rw[gZ,Nat.testBit_or,Nat.testBit_shiftLeft];split
 ·rename_i h;rw[Nat.testBit_or,Nat.testBit_shiftLeft,gZ];by_cases hm:m<64
  ·have h1:(64*j+m >= 8*i)↔(m >= 8*(i%8)):=by omega
   have h2:64*j+m-8*i=m-8*(i%8):=by omega
   simp[hm,h1,h2]
  have h3:v.testBit (m-8*(i%8))=false:=uW hv (by omega);simp[hm,h3]
 ·rename_i h;rw[gZ];by_cases hm:m<64
  ·by_cases hg:64*j+m >= 8*i;have h3:v.testBit (64*j+m-8*i)=false:=uW hv (by omega);simp[hm,h3];simp[hm,hg]
  simp[hm]
def ie(x i:Nat):Nat:=2^i-1-x%2^i
theorem wA(x i:Nat):ie x i<2^i:=by have:0<2^i:=Nat.pow_pos (by decide);unfold ie;omega
theorem PN(x:Nat):ie x 0=0:=by simp[ie]
theorem Kn(x i:Nat):ie x (i+1)=2^i*(1-bit x i)+ie x i:=by
 have h:=Ao x i;have hb:=gV x i;have hl:=Nat.mod_lt x (show 0<2^i from Nat.pow_pos (by decide));unfold ie;rw[h,Nat.pow_succ];generalize 2^i=P at*;obtain h0|h0:bit x i=0\/bit x i=1:=by omega
 rw[h0];omega;rw[h0];omega
theorem OU(h:bit x i=0):ie x i|||2^i=ie x (i+1):=by rw[Kn,h,qe (wA x i)];omega
theorem EV(h:bit x i≠0):ie x i=ie x (i+1):=by have:=gV x i;rw[Kn,show bit x i=1 by omega];omega
theorem Kr(hx:x<ai):ie x 256=ai-1-x:=by unfold ie;rw[<-bJ,Nat.mod_eq_of_lt hx]
theorem sz(x i:Nat):x/2^i=2*(x/2^(i+1))+bit x i:=by unfold bit;rw[Nat.pow_succ,<-Nat.div_div_eq_div_mul];omega
theorem JW(h:x/2^(j+1)=y/2^(j+1))(hb:bit x j=bit y j):x/2^j=y/2^j:=by rw[sz x j,sz y j,h,hb]
theorem Iv(h:x/2^(j+1)=y/2^(j+1))(hb:bit x j<bit y j):x<y:=by
 rcases Nat.lt_or_ge x y with h'|h'
 exact h';have:=Nat.div_le_div_right (c:=2^j) h';rw[sz x j,sz y j,h]at this;omega
theorem Hy(h:x/2^(j+1)=y/2^(j+1))(hb:bit y j<bit x j):¬x<y:=by have:=Iv h.symm hb;omega
theorem yW(hx:x<ai)(hy:y<ai):x/2^256=y/2^256:=by rw[<-bJ,Nat.div_eq_of_lt hx,Nat.div_eq_of_lt hy]
theorem wY(x k:Nat):x/2^(64*k)=18446744073709551616*(x/2^(64*(k+1)))+wd x k:=by unfold wd;rw[pg,<-Nat.div_div_eq_div_mul];omega
theorem L6(h:x/2^(64*(k+1))=y/2^(64*(k+1)))(hb:wd x k=wd y k):x/2^(64*k)=y/2^(64*k):=by rw[wY x k,wY y k,h,hb]
theorem JL(h:x/2^(64*(k+1))=y/2^(64*(k+1)))(hb:wd x k<wd y k):x<y:=by
 rcases Nat.lt_or_ge x y with h'|h'
 exact h';have:=Nat.div_le_div_right (c:=2^(64*k)) h';rw[wY x k,wY y k,h]at this;omega
def cmp(x y:Nat):Int:=if x<y then -1 else if y<x then 1 else 0
theorem Kz(h:x/2^(64*(k+1))=y/2^(64*(k+1)))(hb:wd x k≠wd y k):cmp (wd x k) (wd y k)=cmp x y:=by
 unfold cmp;rcases Nat.lt_or_ge (wd x k) (wd y k)with h'|h'
 rw[if_pos h',if_pos (JL h h')];have h2:=JL h.symm (show wd y k<wd x k by omega);rw[if_neg (by omega),if_pos (by omega),if_neg (by omega),if_pos h2]
theorem G_(h:x/2^(64*(0+1))=y/2^(64*(0+1))):cmp (wd x 0) (wd y 0)=cmp x y:=by by_cases hb:wd x 0=wd y 0;have:=L6 h hb;simp at this;subst this;simp[cmp];exact Kz h hb
def up(x n:Nat):Nat:=x<<<n%ai
def down(x n:Nat):Nat:=x>>>n
theorem mm(x n:Nat):up x n<ai:=Nat.mod_lt _ (by decide)
theorem Cr(hx:x<ai)(n:Nat):down x n<ai:=by unfold down;rw[Nat.shiftRight_eq_div_pow];exact Nat.lt_of_le_of_lt (Nat.div_le_self _ _) hx
theorem sj(x n i:Nat):(up x n).testBit i=(decide (i<256)&&(decide (n<=i)&&x.testBit (i-n))):=by unfold up;rw[bJ,Nat.testBit_mod_two_pow,Nat.testBit_shiftLeft]
theorem Ho(x n i:Nat):(down x n).testBit i=x.testBit (n+i):=by unfold down;rw[Nat.testBit_shiftRight]
theorem Ay(x n k j:Nat)(hk:k<4):(wd (up x n) k).testBit j=(decide (j<64)&&(decide (n<=64*k+j)&&x.testBit (64*k+j-n))):=by
 rw[gZ,sj];by_cases hj:j<64
 ·have:64*k+j<256:=by omega
  simp[hj,this]
 simp[hj]
theorem C5(x n k j:Nat):(wd (down x n) k).testBit j=(decide (j<64)&&x.testBit (n+(64*k+j))):=by rw[gZ,Ho]
theorem Ah(v j:Nat):(v%18446744073709551616).testBit j=(decide (j<64)&&v.testBit j):=by rw[show(18446744073709551616:Nat)=2^64 by decide,Nat.testBit_mod_two_pow]
theorem nV(x n k:Nat)(hk:k<4)(h:n/64<k):wd (up x n) k=(wd x (k-n/64)<<<(n%64))%18446744073709551616|||wd x (k-n/64-1)>>>(64-n%64):=by
 apply Nat.eq_of_testBit_eq;intro j;rw[Ay x n k j hk,Nat.testBit_or,Ah,Nat.testBit_shiftLeft,Nat.testBit_shiftRight,gZ,gZ];have hm:n%64<64:=Nat.mod_lt _ (by decide);by_cases hj:j<64
 ·by_cases h1:n%64<=j
  ·have h2:n<=64*k+j:=by omega
   have h3:64*(k-n/64)+(j-n%64)=64*k+j-n:=by omega
   have h4:¬(64-n%64+j<64):=by omega
   have h5:j-n%64<64:=by omega
   simp[hj,h1,h2,h3,h4,h5]
  ·have h2:n<=64*k+j:=by omega
   have h3:64*(k-n/64-1)+(64-n%64+j)=64*k+j-n:=by omega
   have h4:64-n%64+j<64:=by omega
   simp[hj,h1,h2,h3,h4]
 ·have h4:¬(64-n%64+j<64):=by omega
  simp[hj,h4]
theorem Bu(x n k:Nat)(hk:k<4)(h:n/64=k):wd (up x n) k=(wd x (k-n/64)<<<(n%64))%18446744073709551616:=by
 apply Nat.eq_of_testBit_eq;intro j;rw[Ay x n k j hk,Ah,Nat.testBit_shiftLeft,gZ];have hm:n%64<64:=Nat.mod_lt _ (by decide);by_cases hj:j<64
 ·by_cases h1:n%64<=j
  ·have h2:n<=64*k+j:=by omega
   have h3:64*(k-n/64)+(j-n%64)=64*k+j-n:=by omega
   have h5:j-n%64<64:=by omega
   simp[hj,h1,h2,h3,h5]
  ·have h2:¬(n<=64*k+j):=by omega
   simp[h1,h2]
 simp[hj]
theorem DQ(x n k:Nat)(hk:k<4)(h:k<n/64):wd (up x n) k=0:=by
 apply Nat.eq_of_testBit_eq;intro j;rw[Ay x n k j hk,Nat.zero_testBit];by_cases hj:j<64
 ·have h2:¬(n<=64*k+j):=by omega
  simp[h2]
 simp[hj]
theorem wo(x n k:Nat):wd (down x n) k=wd x (k+n/64)>>>(n%64)|||(wd x (k+n/64+1)<<<(64-n%64))%18446744073709551616:=by
 apply Nat.eq_of_testBit_eq;intro j;rw[C5,Nat.testBit_or,Ah,Nat.testBit_shiftLeft,Nat.testBit_shiftRight,gZ,gZ];have hm:n%64<64:=Nat.mod_lt _ (by decide);by_cases hj:j<64
 ·by_cases h1:n%64+j<64
  ·have h3:64*(k+n/64)+(n%64+j)=n+(64*k+j):=by omega
   have h4:¬(64-n%64<=j):=by omega
   simp[hj,h1,h3,h4]
  ·have h3:64*(k+n/64+1)+(j-(64-n%64))=n+(64*k+j):=by omega
   have h4:64-n%64<=j:=by omega
   have h5:j-(64-n%64)<64:=by omega
   simp[hj,h1,h3,h4,h5]
 ·have h1:¬(n%64+j<64):=by omega
  simp[hj,h1]
theorem z7(hx:x<ai){i:Nat}(hi:256<=i):x.testBit i=false:=
 Nat.testBit_lt_two_pow (Nat.lt_of_lt_of_le hx (by rw[bJ];exact Nat.pow_le_pow_right (by decide) hi))
theorem C6(hx:x<ai)(n k:Nat)(h:k+n/64=3):wd (down x n) k=wd x (k+n/64)>>>(n%64):=by
 apply Nat.eq_of_testBit_eq;intro j;rw[C5,Nat.testBit_shiftRight,gZ];have hm:n%64<64:=Nat.mod_lt _ (by decide);by_cases hj:j<64
 ·by_cases h1:n%64+j<64
  ·have h3:64*(k+n/64)+(n%64+j)=n+(64*k+j):=by omega
   simp[hj,h1,h3]
  have h3:=z7 hx (show 256<=n+(64*k+j) by omega);simp[h1,h3]
 ·have h1:¬(n%64+j<64):=by omega
  simp[hj,h1]
theorem Iq(hx:x<ai)(n k:Nat)(h:4<=k+n/64):wd (down x n) k=0:=by apply Nat.eq_of_testBit_eq;intro j;rw[C5,Nat.zero_testBit];have h3:=z7 hx (show 256<=n+(64*k+j) by omega);simp[h3]
theorem xa(hx:x<ai):up x 0=x:=by simp[up,Nat.mod_eq_of_lt hx]
theorem EH(x:Nat):down x 0=x:=by simp[down]
theorem up_add(x n m:Nat):up (up x n) m=up x (n+m):=by
 apply Nat.eq_of_testBit_eq;intro i;rw[sj,sj,sj];by_cases hi:i<256
 ·by_cases h1:m<=i
  ·have h2:i-m<256:=by omega
   have h3:i-m-n=i-(n+m):=by omega
   have h4:(n<=i-m)↔(n+m<=i):=by omega
   simp[hi,h1,h2,h3,h4]
  ·have h2:¬(n+m<=i):=by omega
   simp[h1,h2]
 simp[hi]
theorem Ip(x n m:Nat):down (down x n) m=down x (n+m):=by unfold down;rw[Nat.shiftRight_add]
theorem Bo(x:Nat){n:Nat}(h:256<=n):up x n=0:=by
 apply Nat.eq_of_testBit_eq;intro i;rw[sj,Nat.zero_testBit];by_cases hi:i<256
 ·have h2:¬(n<=i):=by omega
  simp[h2]
 simp[hi]
theorem D5(hx:x<ai){n:Nat}(h:256<=n):down x n=0:=by apply Nat.eq_of_testBit_eq;intro i;rw[Ho,Nat.zero_testBit,z7 hx (by omega)]
theorem sC(y:Nat):wd (up y 64) 0=0/\wd (up y 64) 1=wd y 0/\wd (up y 64) 2=wd y 1/\wd (up y 64) 3=wd y 2:=by refine⟨DQ y 64 0 (by omega) (by omega),?_,?_,?_⟩;rw[Bu y 64 1 (by omega) (by omega)];simp;exact dj y 0;rw[nV y 64 2 (by omega) (by omega)];have h1:wd y 0>>>64=0:=Nat.shiftRight_eq_zero _ _ (dj y 0);simp[h1];exact dj y 1;rw[nV y 64 3 (by omega) (by omega)];have h1:wd y 1>>>64=0:=Nat.shiftRight_eq_zero _ _ (dj y 1);simp[h1];exact dj y 2
theorem Nf(hy:y<ai):wd (down y 64) 0=wd y 1/\wd (down y 64) 1=wd y 2/\wd (down y 64) 2=wd y 3/\wd (down y 64) 3=0:=by
 have z:∀v:Nat,v<<<64%18446744073709551616=0:=fun v=>by rw[Nat.shiftLeft_eq];omega
 refine⟨?_,?_,?_,Iq hy 64 3 (by omega)⟩;rw[wo y 64 0];simp[z];rw[wo y 64 1];simp[z];rw[C6 hy 64 2 (by omega)];simp
theorem qq(a b m:Nat)(hm:m<=64)(hb:b<18446744073709551616):a<<<m%18446744073709551616+b>>>(64-m)=a<<<m%18446744073709551616|||b>>>(64-m):=by
 have h1:b>>>(64-m)<2^m:=by
  rw[Nat.shiftRight_eq_div_pow,Nat.div_lt_iff_lt_mul (Nat.pow_pos (by decide)),<-Nat.pow_add,show m+(64-m)=64 by omega];exact hb
 have h2:a<<<m%18446744073709551616=2^m*(a%2^(64-m)):=by
  rw[Nat.shiftLeft_eq,Nat.mul_comm,show(18446744073709551616:Nat)=2^m*2^(64-m) by rw[<-Nat.pow_add,show m+(64-m)=64 by omega],Nat.mul_mod_mul_left]
 rw[h2,Nat.two_pow_add_eq_or_of_lt h1]
theorem Jm(a b m:Nat)(hm:m<=64)(ha:a<18446744073709551616):a>>>m+b<<<(64-m)%18446744073709551616=a>>>m|||b<<<(64-m)%18446744073709551616:=by have:=qq b a (64-m) (by omega) ha;rw[show 64-(64-m)=m by omega]at this;rw[Nat.add_comm,this,Nat.or_comm]
theorem yj(ha:a<18446744073709551616)(hb:b<18446744073709551616):(a|||b)<18446744073709551616:=Nat.or_lt_two_pow (n:=64) ha hb
theorem nX(x n:Nat):up x n=x*2^n%ai:=by unfold up;rw[Nat.shiftLeft_eq]
theorem A3(x n:Nat):down x n=x/2^n:=by unfold down;rw[Nat.shiftRight_eq_div_pow]
def mv(x:Nat)(b:Int):Nat:=if b<0 then down x (8*(-b).toNat)else up x (8*b.toNat)
theorem yG(hx:x<ai)(b:Int):mv x b<ai:=by unfold mv;split;exact Cr hx _;exact mm _ _
def j0(bits:Nat):Nat:=mv (bits%8388608) ((bits/16777216:Nat)-3)
def gR(bits:Nat):Bool:=decide (0<bits%8388608)&&decide (bits/8388608%2=1)
def fw(bits:Nat):Bool:=decide (0<bits%8388608/\34<bits/16777216\/255<bits%8388608/\33<bits/16777216\/65535<bits%8388608/\32<bits/16777216)
def bl(x:Nat):Nat:=(len x+7)/8
def lV(x:Nat):Nat:=mv x (3-(bl x:Nat))%18446744073709551616
def enc(x:Nat):Nat:=if lV x<8388608 then bl x*16777216+lV x else(bl x+1)*16777216+lV x/256
theorem qf(x:Nat):x<2^len x:=(gX x).1
theorem zm(hx:x<ai):len x<=256:=ia (by rw[<-bJ];exact hx)
theorem lC(h:a<=b):2^a<=2^b:=Nat.pow_le_pow_right (by decide) h
theorem vG:lV x=if bl x<=3 then x*2^(8*(3-bl x))else x/2^(8*(bl x-3)):=by
 have hi:=qf x;have hb:8*bl x >= len x:=by unfold bl;omega
 unfold lV mv;by_cases h:bl x<=3
 ·have h1:x*2^(8*(3-bl x))<2^24:=by
   have h1:x*2^(8*(3-bl x))<2^len x*2^(8*(3-bl x)):=Nat.mul_lt_mul_of_pos_right hi (Nat.pow_pos (by decide));rw[<-Nat.pow_add]at h1;have h2:2^(len x+8*(3-bl x))<=2^24:=lC (by omega);omega
  rw[if_neg (by omega),if_pos h,show(3-(bl x:Nat):Int).toNat=3-bl x by omega,nX,Nat.mod_eq_of_lt (a:=x*_) (by unfold ai;omega),Nat.mod_eq_of_lt (by omega)]
 rw[if_pos (by omega),if_neg h,show(-(3-(bl x:Nat)):Int).toNat=bl x-3 by omega,A3,Nat.mod_eq_of_lt];rw[Nat.div_lt_iff_lt_mul (Nat.pow_pos (by decide))];have h2:2^len x<=2^(24+8*(bl x-3)):=lC (by omega);rw[Nat.pow_add]at h2;omega
theorem Lf:lV x<16777216:=by
 have hi:=qf x;have hb:8*bl x >= len x:=by unfold bl;omega
 rw[vG];by_cases h:bl x<=3;rw[if_pos h];have h1:x*2^(8*(3-bl x))<2^len x*2^(8*(3-bl x)):=Nat.mul_lt_mul_of_pos_right hi (Nat.pow_pos (by decide));rw[<-Nat.pow_add]at h1;have h2:2^(len x+8*(3-bl x))<=2^24:=lC (by omega);omega;rw[if_neg h,Nat.div_lt_iff_lt_mul (Nat.pow_pos (by decide))];have h2:2^len x<=2^(24+8*(bl x-3)):=lC (by omega);rw[Nat.pow_add]at h2;omega
theorem vo:bl 0=0:=rfl
theorem vB(x i:Nat):bl (x%2^(8*(i+1)))=if 0<x/2^(8*i)%256 then i+1 else bl (x%2^(8*i)):=by
 have e:x%2^(8*(i+1))=x%2^(8*i)+2^(8*i)*(x/2^(8*i)%256):=by
  rw[show 8*(i+1)=8*i+8 by omega,Nat.pow_add,Nat.mod_mul]
 have hm:=Nat.mod_lt x (show 0<2^(8*i)from Nat.pow_pos (by decide));have hb:=Nat.mod_lt (x/2^(8*i)) (show 0<256 by decide);split
 ·rename_i h;have h1:len (x%2^(8*(i+1)))<=8*(i+1):=ia (Nat.mod_lt _ (Nat.pow_pos (by decide)))
  have h2:8*i<len (x%2^(8*(i+1))):=by
   rcases Nat.lt_or_ge (8*i) (len (x%2^(8*(i+1))))with h'|h'
   exact h';have h3:=Cs h';rw[e]at h3;have:2^(8*i)*1<=2^(8*i)*(x/2^(8*i)%256):=Nat.mul_le_mul_left _ h;omega
  unfold bl;omega
 ·rename_i h;rw[e,show x/2^(8*i)%256=0 by omega];simp
theorem uG(x:Nat):bl (x%2^(8*0))=0:=by simp[Nat.mod_one,vo]
theorem Cp(hx:x<ai):bl (x%2^(8*32))=bl x:=by rw[Nat.mod_eq_of_lt (by rw[show 2^(8*32)=ai by decide];exact hx)]
theorem xU(hx:x<ai):bl x<=32:=by have:=zm hx;unfold bl;omega
structure QI (a b t out rest:Nat):Prop where
 sum:a=out*b+rest
 low:out%2^t=0
 rest:rest<b*2^t
theorem QI.take(h:QI a b (i+1) out rest)(hd:b*2^i<=rest):QI a b i (out|||2^i) (rest-b*2^i):=by
 have hlow:=h.low;have hrest:=h.rest;rw[Be h.low];have hp:2^(i+1)=2^i*2:=Nat.pow_succ 2 i;refine⟨?_,?_,?_⟩;rw[Nat.add_mul,Nat.mul_comm (2^i)];have:=h.sum;omega
 ·have h1:out%2^i=0:=by
   rw[hp]at hlow;have:=Nat.mod_mul_right_mod out (2^i) 2;rw[hlow]at this;simpa using this.symm
  rw[Nat.add_mod_right,h1]
 rw[hp,<-Nat.mul_assoc]at hrest;omega
theorem QI.skip(h:QI a b (i+1) out rest)(hd:rest<b*2^i):QI a b i out rest:=by have hlow:=h.low;refine⟨h.sum,?_,hd⟩;rw[Nat.pow_succ]at hlow;have:=Nat.mod_mul_right_mod out (2^i) 2;rw[hlow]at this;simpa using this.symm
theorem QI.done(h:QI a b 0 out rest):out=a/b/\rest=a%b:=by
 have hr:=h.rest;rw[Nat.pow_zero,Nat.mul_one]at hr;have hb:0<b:=by omega
 constructor;rw[h.sum,Nat.mul_comm,Nat.mul_add_div hb,Nat.div_eq_of_lt hr,Nat.add_zero];rw[h.sum,Nat.mul_comm,Nat.mul_add_mod,Nat.mod_eq_of_lt hr]
theorem QI.Ud(h:QI a b t out rest):rest<=a:=by have:=h.sum;omega
theorem QI.start(t:Nat)(h:a<b*2^t):QI a b t 0 a:=⟨by omega,Nat.zero_mod _,h⟩
theorem Hu(h:x*2^n<ai):up x n=x*2^n:=by unfold up;rw[Nat.shiftLeft_eq,Nat.mod_eq_of_lt h]
theorem Mu(hl:len b<=len a):a<b*2^(len a-len b+1)\/b=0:=by
 by_cases hb:b=0;exact .inr hb
 ·left;have h1:=(gX a).1;have hlb:len b≠0:=fun e=>by have:=(gX b).1;rw[e]at this;simp at this;exact hb this
  have h2:=(gX b).2 hlb;have h3:2^(len b-1)*2^(len a-len b+1)=2^len a:=by rw[<-Nat.pow_add];congr 1;omega
  have h4:2^(len b-1)*2^(len a-len b+1)<=b*2^(len a-len b+1):=Nat.mul_le_mul_right _ h2;omega
theorem Qg(ha:a<ai)(hl:len b<=len a){k:Nat}(hk:k<=len a-len b):b*2^k<ai:=by have h1:=(gX b).1;have h2:len a<=256:=ia (by rw[<-bJ];exact ha);have h3:b*2^k<2^len b*2^k:=Nat.mul_lt_mul_of_pos_right h1 (Nat.pow_pos (by decide));rw[<-Nat.pow_add]at h3;rw[bJ];exact Nat.lt_of_lt_of_le h3 (Nat.pow_le_pow_right (by decide) (by omega))
theorem FC(hl:len a<len b):a<b:=by have h1:=(gX a).1;have h2:=(gX b).2 (by omega);have h3:2^len a<=2^(len b-1):=Nat.pow_le_pow_right (by decide) (by omega);omega
def hw(M j:Nat):Nat:=M/4294967296^j%4294967296
theorem ji(M j:Nat):hw M j<4294967296:=Nat.mod_lt _ (by decide)
def hc(n a i:Nat):Nat:=n%4294967296^i*a/4294967296^i
theorem wQ(n a:Nat):hc n a 0=0:=by simp[hc,Nat.mod_one]
theorem tR(i:Nat):0<4294967296^i:=Nat.pow_pos (by decide)
theorem pQ(n a i:Nat):hc n a i<=a:=by unfold hc;refine Nat.div_le_of_le_mul ?_;exact Nat.mul_le_mul_right _ (Nat.le_of_lt (Nat.mod_lt _ (tR i)))
theorem kp(n a i:Nat):hw n i*a+hc n a i=n%4294967296^(i+1)*a/4294967296^i:=by have hp:=tR i;unfold hw hc;rw[Nat.pow_succ];generalize 4294967296^i=P at*;rw[Nat.mod_mul,Nat.add_mul,Nat.mul_assoc,Nat.add_mul_div_left _ _ hp,Nat.add_comm]
theorem Bv(n a i:Nat):(hw n i*a+hc n a i)%4294967296=hw (n*a) i:=by
 rw[kp];have hp:=tR i;unfold hw;rw[Nat.pow_succ];generalize 4294967296^i=P at*
 have e:n*a=n%(P*4294967296)*a+P*(4294967296*(n/(P*4294967296)*a)):=by
  have:=Nat.mod_add_div n (P*4294967296)
  calc n*a=(n%(P*4294967296)+P*4294967296*(n/(P*4294967296)))*a:=by rw[this]
   _=_:=by rw[Nat.add_mul,Nat.mul_assoc P,Nat.mul_assoc P,Nat.mul_assoc 4294967296]
 generalize n%(P*4294967296)*a=X at*;generalize n/(P*4294967296)*a=Y at*;rw[e,Nat.add_mul_div_left _ _ hp];omega
theorem zO(n a i:Nat):(hw n i*a+hc n a i)/4294967296=hc n a (i+1):=by rw[kp];unfold hc;rw[Nat.div_div_eq_div_mul,Nat.pow_succ]
def hr(M o i:Nat):Nat:=M/4294967296^i%o
theorem Iw{o:Nat}(M i:Nat)(ho:0<o):hr M o i<o:=Nat.mod_lt _ ho
theorem xi(M i o:Nat)(ho:0<o):(hr M o (i+1)*4294967296+hw M i)/o=hw (M/o) i/\(hr M o (i+1)*4294967296+hw M i)%o=hr M o i:=by
 unfold hr hw;rw[Nat.pow_succ,<-Nat.div_div_eq_div_mul,Nat.div_div_eq_div_mul M o,Nat.mul_comm o,<-Nat.div_div_eq_div_mul];generalize M/4294967296^i=X;obtain⟨Y,hY⟩:∃Y,Y=X/4294967296:=⟨_,rfl⟩;obtain⟨d,hd⟩:∃d,d=X%4294967296:=⟨_,rfl⟩;obtain⟨r,hr⟩:∃r,r=Y%o:=⟨_,rfl⟩;obtain⟨k,hk⟩:∃k,k=Y/o:=⟨_,rfl⟩;have h1:X=Y*4294967296+d:=by omega
 have h2:o*k+r=Y:=by rw[hk,hr];exact Nat.div_add_mod Y o
 have hlt:r<o:=by rw[hr];exact Nat.mod_lt _ ho
 have hd2:d<4294967296:=by omega
 rw[<-hY,<-hd,<-hr]
 have e:X=o*(k*4294967296)+(r*4294967296+d):=by
  rw[h1,<-h2,Nat.add_mul,Nat.mul_assoc,Nat.add_assoc]
 have hv:r*4294967296+d<o*4294967296:=by
  have:(r+1)*4294967296<=o*4294967296:=Nat.mul_le_mul_right _ hlt;omega
 clear h1 h2 hd hY hr hk;generalize r*4294967296+d=V at*;rw[e,Nat.mul_add_div ho,Nat.mul_add_mod];have h3:V/o<4294967296:=Nat.div_lt_of_lt_mul hv;generalize V/o=z at*;exact⟨by omega,rfl⟩
theorem tu(n k:Nat):wd n k%4294967296=hw n (2*k):=by unfold wd hw;rw[show(18446744073709551616:Nat)=4294967296*4294967296 by decide,Nat.mod_mul_left_mod,show 2^(64*k)=4294967296^(2*k) by rw[show(4294967296:Nat)=2^32 by decide,<-Nat.pow_mul];congr 1;omega]
theorem Jn(n k:Nat):wd n k/4294967296%4294967296=hw n (2*k+1):=by unfold wd hw;rw[show(18446744073709551616:Nat)=4294967296*4294967296 by decide,Nat.mod_mul_right_div_self,Nat.mod_mod,Nat.pow_succ,<-Nat.div_div_eq_div_mul,show 2^(64*k)=4294967296^(2*k) by rw[show(4294967296:Nat)=2^32 by decide,<-Nat.pow_mul];congr 1;omega]
theorem nT(k:Nat):(4294967296:Nat)^(2*k)=2^(64*k):=by rw[show(4294967296:Nat)=2^32 by decide,<-Nat.pow_mul];congr 1;omega
theorem kJ(Q k:Nat):Q%4294967296^(k+1)=Q%4294967296^k+4294967296^k*hw Q k:=by unfold hw;rw[Nat.pow_succ,Nat.mod_mul]
theorem uh(Q k:Nat):Q%4294967296^k<4294967296^k:=Nat.mod_lt _ (tR k)
theorem qU(Q m:Nat):wd (Q%4294967296^(2*m)) m=0/\wd (Q%4294967296^(2*m+1)) m=hw Q (2*m):=by
 have h1:=uh Q (2*m);have h2:=ji Q (2*m);rw[kJ];unfold wd;rw[<-nT];generalize 4294967296^(2*m)=P at*;generalize Q%P=Z at*;generalize hw Q (2*m)=h at*;have hP:0<P:=by omega
 rw[Nat.div_eq_of_lt h1,Nat.add_mul_div_left _ _ hP,Nat.div_eq_of_lt h1];omega
theorem CY(Q m:Nat):wd (Q%4294967296^(2*m+2)) m=hw Q (2*m)+hw Q (2*m+1)*4294967296:=by
 have h1:=uh Q (2*m);have h2:=ji Q (2*m);have h3:=ji Q (2*m+1);rw[kJ,kJ];unfold wd;rw[<-nT,Nat.pow_succ];generalize 4294967296^(2*m)=P at*;generalize Q%P=Z at*;generalize hw Q (2*m)=h at*;generalize hw Q (2*m+1)=g at*;have hP:0<P:=by omega
 rw[Nat.mul_assoc,Nat.add_assoc,<-Nat.mul_add,Nat.add_mul_div_left _ _ hP,Nat.div_eq_of_lt h1];omega
theorem uf(Q k j:Nat)(hj:j≠k/2):wd (Q%4294967296^(k+1)) j=wd (Q%4294967296^k) j:=by
 have h1:=uh Q k;have h2:=uh Q (k+1);by_cases hlt:j<k/2
 ·rw[kJ];unfold wd;obtain⟨d,hd⟩:∃d,k=2*(j+1)+d:=⟨k-2*(j+1),by omega⟩
  have e:4294967296^k=2^(64*j)*(18446744073709551616*4294967296^d):=by
   rw[hd,Nat.pow_add,nT,show 64*(j+1)=64*j+64 by omega,Nat.pow_add,Nat.mul_assoc]
  rw[e,Nat.mul_assoc,Nat.add_mul_div_left _ _ (Nat.pow_pos (by decide)),Nat.mul_assoc,Nat.add_mul_mod_self_left]
 ·have hk:k+1<=2*j:=by omega
  have hp:4294967296^(k+1)<=2^(64*j):=by rw[<-nT];exact Nat.pow_le_pow_right (by decide) hk
  have hp2:4294967296^k<=4294967296^(k+1):=Nat.pow_le_pow_right (by decide) (by omega);unfold wd;rw[Nat.div_eq_of_lt (by omega),Nat.div_eq_of_lt (by omega)]
theorem Fe(Q:Nat):Q%4294967296^8=Q%ai:=by rw[bJ,show(2:Nat)^256=4294967296^8 by decide]
theorem C7{Q:Nat}(hQ:Q<4294967296^10):(hw Q 8=0/\hw Q 9=0)↔Q<ai:=by
 rw[bJ,show(2:Nat)^256=4294967296^8 by decide];unfold hw;have e9:(4294967296:Nat)^9=4294967296^8*4294967296:=by decide
 have e10:(4294967296:Nat)^10=4294967296^8*(4294967296*4294967296):=by decide
 rw[e10]at hQ;rw[e9,<-Nat.div_div_eq_div_mul];have hp:0<(4294967296:Nat)^8:=by decide
 generalize(4294967296:Nat)^8=P at*;have h1:Q/P<4294967296*4294967296:=Nat.div_lt_of_lt_mul hQ
 have h2:Q<P↔Q/P=0:=by
  constructor;exact Nat.div_eq_of_lt;intro h;have:=Nat.div_add_mod Q P;rw[h]at this;have:=Nat.mod_lt Q hp;omega
 rw[h2];generalize Q/P=X at*;omega
