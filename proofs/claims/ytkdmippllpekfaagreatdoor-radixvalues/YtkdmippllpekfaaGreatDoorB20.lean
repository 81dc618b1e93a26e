import Derived.Test.YtkdmippllpekfaaGreatDoorB12
import Derived.Test.YtkdmippllpekfaaGreatDoorB11
import Derived.Test.YtkdmippllpekfaaGreatDoorB18
namespace Go.Proofs.YtkdmippllpekfaaGreatDoor
set_option maxRecDepth 100000
set_option maxHeartbeats 3200000
variable{ns us vs xs z0 zs:List Nat}{A C C0 C1 E F G H Hi K L M P Q R S X a b c c2 c3 cap ch cut d g h hi i k l less lo m n o q r rest s t y:Nat}{ga:Option Addr}{v:Value}{w w':World}
section
open Go.RowKit
def vO(z0 zs bs:List Nat)(o k c:Nat):Prop:=zs.length=z0.length/\bG zs/\c<=1/\aB zs+18446744073709551616^(o+k)*c=aB z0+18446744073709551616^o*aB (bs.take k)
theorem OC(h:bG z0)(bs:List Nat)(o:Nat):vO z0 z0 bs o 0 0:=⟨rfl,h,by omega,by simp[aB]⟩
theorem FK{bs:List Nat}(h:vO z0 zs bs o k c)(hk:o+k<zs.length)(hr:r=zs.getD (o+k) 0)(hb:b=bs.getD k 0)(qe:b<18446744073709551616):vO z0 (zs.set (o+k) ((r+b+c)%18446744073709551616)) bs o (k+1) ((r+b+c)/18446744073709551616):=by
 obtain⟨h1,h2,h3,h4⟩:=h;have Nk:r<18446744073709551616:=by rw[hr];exact h2 _
 refine⟨by simpa using h1,iX h2 hk (aD _ (by omega)),by omega,?_⟩;have hs:=ju zs (o+k) ((r+b+c)%18446744073709551616) hk;rw[<-hr]at hs;rw[cQ, <-hb,aH, <-aF, <-aQ, <-dt o k 1,aE,aF];have e:18446744073709551616^(o+k)*((r+b+c)%18446744073709551616)+18446744073709551616^(o+k)*(18446744073709551616*((r+b+c)/18446744073709551616))=18446744073709551616^(o+k)*r+18446744073709551616^(o+k)*b+18446744073709551616^(o+k)*c:=by rw[<-aH,QD,aH,aH]
 omega
theorem TP{bs:List Nat}{N:Nat}(h:vO z0 zs bs o k c)(hk:bs.length<=k)(hc:0<c)(hr:aB z0+18446744073709551616^o*aB bs<18446744073709551616^N):o+k<N:=by obtain⟨_,_,h3,h4⟩:=h;rw[eZ _ _ hk,show c=1 from by omega,dG]at h4;refine eI fun hle=>?_;have:=aA (n:=18446744073709551616) (by omega) hle;omega
theorem YP{bs:List Nat}(h:vO z0 zs bs o k c)(hk:bs.length<=k)(hc:c=0):aB zs=aB z0+18446744073709551616^o*aB bs:=by obtain⟨_,_,_,h4⟩:=h;rw[eZ _ _ hk,hc,dO]at h4;exact h4
def vP(z0 zs bs:List Nat)(o k c:Nat):Prop:=zs.length=z0.length/\bG zs/\c<=1/\aB zs+18446744073709551616^o*aB (bs.take k)=aB z0+18446744073709551616^(o+k)*c
theorem OE(h:bG z0)(bs:List Nat)(o:Nat):vP z0 z0 bs o 0 0:=⟨rfl,h,by omega,by simp[aB]⟩
theorem FP{bs:List Nat}(h:vP z0 zs bs o k c)(hk:o+k<zs.length)(hr:r=zs.getD (o+k) 0)(hb:b=bs.getD k 0)(qe:b<18446744073709551616):vP z0 (zs.set (o+k) ((r+18446744073709551616-b-c)%18446744073709551616)) bs o (k+1) (if r<b+c then 1 else 0):=by
 obtain⟨h1,h2,h3,h4⟩:=h;have Nk:r<18446744073709551616:=by rw[hr];exact h2 _
 refine⟨by simpa using h1,iX h2 hk (aD _ (by omega)),by split<;>omega,?_⟩;have hs:=ju zs (o+k) ((r+18446744073709551616-b-c)%18446744073709551616) hk;rw[<-hr]at hs;rw[cQ, <-hb,aH, <-aF, <-aQ, <-dt o k 1,aE,aF];have hd:(r+18446744073709551616-b-c)%18446744073709551616+b+c=r+18446744073709551616*(if r<b+c then 1 else 0):=by split<;>omega
 have e:18446744073709551616^(o+k)*((r+18446744073709551616-b-c)%18446744073709551616)+18446744073709551616^(o+k)*b+18446744073709551616^(o+k)*c=18446744073709551616^(o+k)*r+18446744073709551616^(o+k)*(18446744073709551616*(if r<b+c then 1 else 0)):=by rw[<-aH, <-aH,hd,aH]
 omega
theorem YX{bs:List Nat}(h:vP z0 zs bs o k 0)(hk:bs.length<=k):aB zs+18446744073709551616^o*aB bs=aB z0:=by obtain⟨_,_,_,h4⟩:=h;rw[eZ _ _ hk,dO]at h4;exact h4
theorem TU{bs:List Nat}(h:vP z0 zs bs o k 1)(hk:bs.length<=k)(hN:z0.length<=o+k):aB z0<18446744073709551616^o*aB bs:=by
 obtain⟨h1,h2,_,h4⟩:=h;rw[eZ _ _ hk,dG]at h4;have:=bF h2;have:=aA (n:=18446744073709551616) (by omega) hN;rw[h1]at *
 omega
theorem Du(c:Nat)(h:c<=1):(c=0/\c=0)\/(c≠0/\c=1):=by omega
theorem yK(w:World)(g o n cap bb ob cb lb:Nat)(gb:Option Addr)(z0 bs:List Nat)(hz:z0.length=o+n)(wc:bs.length=lb)(kl:lb<=n)(hn:o+n<=1099511627776)(hZ:cW w g z0)(dz:bG z0)(hB:cH w gb bb ob cb bs)(db:bG bs)(hne:0<bs.length->bb≠g)(jt:aB z0+18446744073709551616^o*aB bs<18446744073709551616^(o+n)):Calls Tryz.prog 86 #[.slice (some ⟨g,o,none⟩) n cap,.slice gb lb cb] w fun e w'=>e=.returned (.tuple #[])/\∃zs,zs.length=o+n/\bG zs/\cW w' g zs/\aB zs=aB z0+18446744073709551616^o*aB bs/\w.grownBy w' (some g):=by
 have adx:=ag jt;have UD:=ag hne;clear jt hne;go_enter Tryz.func86,Tryz.ntmps86;go_wp2
 go_loopw [4,10] (fun c i wr=>∃(k cy:Nat) (zs:List Nat),k<=lb/\c=.int .u64 (cy:Int)/\i=.int .i64 (k:Int)/\cy<=1/\cW wr g zs/\Hid (vO z0 zs bs o k cy)/\cH wr gb bb ob cb bs/\w.grownBy wr (some g))
  (fun _ i _=>lb-(intOf i).toNat)
 case atStart=>exact⟨0,0,z0,aO _,rfl,rfl,by omega,hZ,OC dz bs o,hB,iD _ _⟩
 case round=>
  obtain⟨k,cy,zs,hk,rfl,rfl,zH,ef,fN,xx,hG⟩:=hrel;have kG:zs.length=o+n:=by rw[fN.out.1];exact hz
  by_cases h1:k<lb
  ·obtain rfl:=xx.head (by omega);obtain⟨b,hb⟩:∃b:Nat,b=bs.getD k 0:=⟨_,rfl⟩;have qe:b<18446744073709551616:=by rw[hb];exact db k
   have cb:wr.cell? ⟨bb,ob+k,none⟩=some (.int .u64 (b:Int)):=by rw[hb];exact xx.cell k (by omega)
   obtain⟨r,hr⟩:∃r:Nat,r=zs.getD (o+k) 0:=⟨_,rfl⟩;have cr:wr.cell? ⟨g,o+k,none⟩=some (.int .u64 (r:Int)):=by rw[hr];exact ef.cell (o+k) (by omega)
   have fr:=ef.frozen (o+k);have H2:=ag (FK fN.out (by omega) hr hb qe);have CA:=ag (fun w=>lN r b cy cy w (Du cy zH));have rC:=(ae H2).2.2.1;generalize (r+b+cy)%18446744073709551616=d at *;generalize (r+b+cy)/18446744073709551616=c2 at *;clear hr hb
   go_wp2_with fail
   refine(ae CA _).mono ?_;rintro e w1 ⟨rfl,rfl⟩;go_wp2;exact⟨⟨k+1,c2,_,by omega,rfl,by go_num,rC,ef.set (o+k) d,H2,xx.but (aY _ _ _ _) (ae UD),cj hG (aY _ _ _ _)⟩,by simp[intOf];omega⟩
  ·obtain rfl:k=lb:=(by omega);go_wp2
   go_loopw [4,7] (fun c i wi=>∃(q cy:Nat) (zs:List Nat),k<=q/\q<=n/\c=.int .u64 (cy:Int)/\i=.int .i64 (q:Int)/\cy<=1/\cW wi g zs/\Hid (vO z0 zs bs o q cy)/\w.grownBy wi (some g))
    (fun _ i _=>n-(intOf i).toNat)
   case atStart=>exact⟨k,cy,zs,af _,kl,rfl,rfl,zH,ef,fN,hG⟩
   case round=>
    obtain⟨q,cy,zs,sL,AA,rfl,rfl,zH,ef,fN,hG⟩:=hrel;have kG:zs.length=o+n:=by rw[fN.out.1];exact hz
    by_cases h2:cy=0
    ·subst h2;have hv:=YP fN.out (by omega) rfl;have HV:=ag hv;have HD:=ag fN.out.2.1;clear hv fN;go_wp2
     go_end0
     exact⟨rfl,zs,kG,ae HD,ef,ae HV,hG⟩
    ·obtain rfl:cy=1:=(by omega);have IJ:=TP fN.out (by omega) (by omega) (ae adx);obtain⟨r,hr⟩:∃r:Nat,r=zs.getD (o+q) 0:=⟨_,rfl⟩;have cr:wr.cell? ⟨g,o+q,none⟩=some (.int .u64 (r:Int)):=by rw[hr];exact ef.cell (o+q) (by omega)
     have fr:=ef.frozen (o+q);have H2:=ag (FK (b:=0) fN.out (by omega) hr (by rw[jo (by omega)]) (by omega));have CA:=ag (fun w=>lN r 0 1 1 w (Or.inr ⟨by omega,rfl⟩));have rC:=(ae H2).2.2.1;generalize (r+0+1)%18446744073709551616=d at *;generalize (r+0+1)/18446744073709551616=c2 at *;have af2:q<n:=(by omega);clear hr IJ
     go_wp2_with fail
     refine(ae CA _).mono ?_;rintro e w1 ⟨rfl,rfl⟩;go_wp2;exact⟨⟨q+1,c2,_,by omega,by omega,rfl,by go_num,rC,ef.set (o+q) d,H2,cj hG (aY _ _ _ _)⟩,by simp[intOf];omega⟩
def Jj(w:World)(g o n:Nat)(z0 bs:List Nat)(e:Ending)(w':World):Prop:=∃(c:Nat) (zs:List Nat),e=.returned (.int .u64 (c:Int))/\c<=1/\zs.length=o+n/\bG zs/\cW w' g zs/\w.grownBy w' (some g)/\
 ((c=0/\aB zs+18446744073709551616^o*aB bs=aB z0)\/(c=1/\aB z0<18446744073709551616^o*aB bs))
theorem take_mk{bs:List Nat}(c:Nat)(zs:List Nat)(h1:c<=1)(h2:zs.length=o+n)(h3:bG zs)(h4:cW w' g zs)(h5:w.grownBy w' (some g))(h6:(c=0/\aB zs+18446744073709551616^o*aB bs=aB z0)\/(c=1/\aB z0<18446744073709551616^o*aB bs)):Jj w g o n z0 bs (.returned (.int .u64 (c:Int))) w':=⟨c,zs,rfl,h1,h2,h3,h4,h5,h6⟩
theorem Ir(w:World)(g o n cap bb ob cb lb:Nat)(gb:Option Addr)(z0 bs:List Nat)(hz:z0.length=o+n)(wc:bs.length=lb)(kl:lb<=n)(hn:o+n<=1099511627776)(hZ:cW w g z0)(dz:bG z0)(hB:cH w gb bb ob cb bs)(db:bG bs)(hne:0<bs.length->bb≠g):Calls Tryz.prog 182 #[.slice (some ⟨g,o,none⟩) n cap,.slice gb lb cb] w (Jj w g o n z0 bs):=by
 have UD:=ag hne;clear hne;go_enter Tryz.func182,Tryz.ntmps182;go_wp2
 go_loopw [4,10] (fun c i wr=>∃(k cy:Nat) (zs:List Nat),k<=lb/\c=.int .u64 (cy:Int)/\i=.int .i64 (k:Int)/\cy<=1/\cW wr g zs/\Hid (vP z0 zs bs o k cy)/\cH wr gb bb ob cb bs/\w.grownBy wr (some g))
  (fun _ i _=>lb-(intOf i).toNat)
 case atStart=>exact⟨0,0,z0,aO _,rfl,rfl,by omega,hZ,OE dz bs o,hB,iD _ _⟩
 case round=>
  obtain⟨k,cy,zs,hk,rfl,rfl,zH,ef,fN,xx,hG⟩:=hrel;have kG:zs.length=o+n:=by rw[fN.out.1];exact hz
  by_cases h1:k<lb
  ·obtain rfl:=xx.head (by omega);obtain⟨b,hb⟩:∃b:Nat,b=bs.getD k 0:=⟨_,rfl⟩;have qe:b<18446744073709551616:=by rw[hb];exact db k
   have cb:wr.cell? ⟨bb,ob+k,none⟩=some (.int .u64 (b:Int)):=by rw[hb];exact xx.cell k (by omega)
   obtain⟨r,hr⟩:∃r:Nat,r=zs.getD (o+k) 0:=⟨_,rfl⟩;have cr:wr.cell? ⟨g,o+k,none⟩=some (.int .u64 (r:Int)):=by rw[hr];exact ef.cell (o+k) (by omega)
   have fr:=ef.frozen (o+k);have H2:=ag (FP fN.out (by omega) hr hb qe);have CA:=ag (fun w=>Dv r b cy cy w (Du cy zH));have rC:=(ae H2).2.2.1;generalize (r+18446744073709551616-b-cy)%18446744073709551616=d at *;generalize (if r<b+cy then 1 else 0)=c2 at *;clear hr hb
   go_wp2_with fail
   refine(ae CA _).mono ?_;rintro e w1 ⟨rfl,rfl⟩;go_wp2;exact⟨⟨k+1,c2,_,by omega,rfl,by go_num,rC,ef.set (o+k) d,H2,xx.but (aY _ _ _ _) (ae UD),cj hG (aY _ _ _ _)⟩,by simp[intOf];omega⟩
  ·obtain rfl:k=lb:=(by omega);go_wp2
   go_loopw [4,7] (fun c i wi=>∃(q cy:Nat) (zs:List Nat),k<=q/\q<=n/\c=.int .u64 (cy:Int)/\i=.int .i64 (q:Int)/\cy<=1/\cW wi g zs/\Hid (vP z0 zs bs o q cy)/\w.grownBy wi (some g))
    (fun _ i _=>n-(intOf i).toNat)
   case atStart=>exact⟨k,cy,zs,af _,kl,rfl,rfl,zH,ef,fN,hG⟩
   case round=>
    obtain⟨q,cy,zs,sL,AA,rfl,rfl,zH,ef,fN,hG⟩:=hrel;have kG:zs.length=o+n:=by rw[fN.out.1];exact hz
    by_cases h2:cy=0
    ·subst h2;have hv:=YX fN.out (by omega);have HV:=ag hv;have HD:=ag fN.out.2.1;clear hv fN;by_cases h3:q<n
     ·go_wp2;go_ret;exact take_mk 0 zs (by omega) kG (ae HD) ef hG (Or.inl ⟨rfl,ae HV⟩)
     ·go_wp2;go_ret;exact take_mk 0 zs (by omega) kG (ae HD) ef hG (Or.inl ⟨rfl,ae HV⟩)
    ·obtain rfl:cy=1:=(by omega);by_cases h3:q<n
     ·obtain⟨r,hr⟩:∃r:Nat,r=zs.getD (o+q) 0:=⟨_,rfl⟩;have cr:wr.cell? ⟨g,o+q,none⟩=some (.int .u64 (r:Int)):=by rw[hr];exact ef.cell (o+q) (by omega)
      have fr:=ef.frozen (o+q);have H2:=ag (FP (b:=0) fN.out (by omega) hr (by rw[jo (by omega)]) (by omega));have CA:=ag (fun w=>Dv r 0 1 1 w (Or.inr ⟨by omega,rfl⟩));have rC:=(ae H2).2.2.1;generalize (r+18446744073709551616-0-1)%18446744073709551616=d at *;generalize (if r<0+1 then 1 else 0)=c2 at *;clear hr
      go_wp2_with fail
      refine(ae CA _).mono ?_;rintro e w1 ⟨rfl,rfl⟩;go_wp2;exact⟨⟨q+1,c2,_,by omega,by omega,rfl,by go_num,rC,ef.set (o+q) d,H2,cj hG (aY _ _ _ _)⟩,by simp[intOf];omega⟩
     ·have hv:=TU fN.out (by omega) (by omega);have HV:=ag hv;have HD:=ag fN.out.2.1;clear hv fN;go_wp2;go_ret;exact take_mk 1 zs (by omega) kG (ae HD) ef hG (Or.inr ⟨rfl,ae HV⟩)
theorem lM(h:fI w v n):∃ga b o cap us,cH w ga b o cap us/\iS us/\aB us=n/\us.length<=1073741824/\Calls Tryz.prog 76 #[v] w fun e w'=>e=.returned (.slice ga us.length cap)/\w'=w:=by obtain⟨ga,b,o,cap,xs,rfl,hr,hd,hv,hl⟩:=h;have hle:=fZ xs xs.length;exact⟨ga,b,o,cap,yi xs,hr.take _ hle,ku hd,by rw[jN];exact hv,by rw[ep];omega,Dl w ga b o cap _ _ xs rfl (by omega) hr (ep xs)⟩
theorem qU(us:List Nat)(j:Nat):aB (us++List.replicate j 0)=aB us:=by rw[jk,(qj j).2,dO,dB]
theorem ug(h:bG us)(j:Nat):bG (us++List.replicate j 0):=nB h (qj j).1
theorem U0{N:Nat}(h1:bG us)(h2:bG vs)(hN:N=max us.length vs.length+1):aB us+aB vs<18446744073709551616^N:=by have a:=oX (bF h1) (q:=N-1) (by omega);have b:=oX (bF h2) (q:=N-1) (by omega);have:=aas a b;rwa [show N-1+1=N from by omega]at this
theorem nA{B:Nat}{N:Nat}(hl:zs.length=N)(hN:N<=1099511627776)(hg:B<=g)(hk:cW w g zs)(hd:bG zs):Calls Tryz.prog 76 #[.slice (some ⟨g,0,none⟩) N N] w fun e w'=>∃v,e=.returned v/\aU B w v (aB zs)/\w'=w:=by
 subst hl;have hr:=hk.rep 0 zs.length zs.length (by omega) (af _);rw[dN,cf]at hr;refine(Dl w _ g 0 _ _ _ zs rfl hN hr rfl).mono ?_;rintro e w' ⟨rfl,rfl⟩;exact⟨_,rfl,Xw hg hk hd hN,rfl⟩
theorem th(w:World)(u v:Value)(m n:Nat)(hu:fI w u m)(hv:fI w v n):Calls Tryz.prog 73 #[u,v] w fun e w'=>∃r,e=.returned r/\aU w.heap.size w' r (m+n)/\Below w.heap.size w w':=by
 obtain⟨ga,ba,oa,ca,us,rA,cA,vA,lA,CA⟩:=lM hu;obtain⟨gb,bb,ob,cb,vs,rB,cB,vB,lB,CB⟩:=lM hv;obtain⟨N,hN⟩:∃N,N=max us.length vs.length+1:=⟨_,rfl⟩;have jt:=U0 cA.1 cB.1 hN;have hbN:vs.length<=N:=by omega
 have zE:N<=1073741825:=by omega
 have CA:=ag CA;have CB:=ag CB;have HN:=ag hN;have kG:(us++List.replicate (N-us.length) 0).length=0+N:=by simp;omega
 obtain⟨la,fA⟩:∃la,la=us.length:=⟨_,rfl⟩;obtain⟨lb,kl⟩:∃lb,lb=vs.length:=⟨_,rfl⟩;rw[<-fA]at CA lA HN kG;rw[<-kl]at CB lB HN hbN;have uY:=ag fA;have I4:=ag kl;have HR:=ag jt;clear hu hv hN jt fA kl;go_enter Tryz.func73,Tryz.ntmps73
 go_wp2_with fail
 refine(ae CA).mono ?_;rintro e w1 ⟨rfl,rfl⟩
 go_wp2_with fail
 refine(ae CB).mono ?_;rintro e w2 ⟨rfl,rfl⟩;clear CA CB
 go_wp2_with fail
 refine(FN _ ga gb ba oa ca cb la lb N us (ae uY).symm (by omega) (by omega) rA (ae HN)).mono ?_;rintro e w3 ⟨rfl,k3,b3⟩
 go_wp2_with fail
 refine(yK _ w2.heap.size 0 N N bb ob cb lb gb _ vs kG (ae I4).symm hbN (by omega) k3 (ug cA.1 _) (rB.next b3) cB.1 (fun h=>by have:=rB.lt h;omega) (by rw[qU,cL,cX,bh];exact ae HR)).mono ?_;rintro e w4 ⟨rfl,zs,hl,hd,k4,Mj,g4⟩;rw[qU,cL,cX,vA,vB]at Mj;have b4:=gS b3 g4 (af _) b3.size;have HV:=ag Mj;clear Mj g4 k3
 go_wp2_with fail
 refine(nA (B:=w2.heap.size) (by omega) (by omega) (af _) k4 hd).mono ?_;rintro e w5 ⟨r,rfl,hr,rfl⟩;rw[ae HV]at hr;go_wp2;go_ret;exact⟨r,rfl,hr,b4⟩
def Ar(w:World)(m n:Nat)(e:Ending)(w':World):Prop:=Below w.heap.size w w'/\((n<=m/\∃r,e=.returned (.tuple #[r,.bool true])/\aU w.heap.size w' r (m-n))\/(m<n/\e=.returned (.tuple #[.slice none 0 0,.bool false])))
theorem Fz(hb:Below w.heap.size w w')(h:m<n):Ar w m n (.returned (.tuple #[.slice none 0 0,.bool false])) w':=⟨hb,Or.inr ⟨h,rfl⟩⟩
theorem Ol{r:Value}(hb:Below w.heap.size w w')(h:n<=m)(hr:aU w.heap.size w' r (m-n)):Ar w m n (.returned (.tuple #[r,.bool true])) w':=⟨hb,Or.inl ⟨h,r,rfl,hr⟩⟩
theorem su(w:World)(u v:Value)(m n:Nat)(hu:fI w u m)(hv:fI w v n):Calls Tryz.prog 149 #[u,v] w (Ar w m n):=by
 obtain⟨ga,ba,oa,ca,us,rA,cA,vA,lA,CA⟩:=lM hu;obtain⟨gb,bb,ob,cb,vs,rB,cB,vB,lB,CB⟩:=lM hv;have dh:us.length<vs.length->m<n:=fun h=>by have:=uX cA.1 cB h;omega
 have CA:=ag CA;have CB:=ag CB;have HLT:=ag dh;obtain⟨la,fA⟩:∃la,la=us.length:=⟨_,rfl⟩;obtain⟨lb,kl⟩:∃lb,lb=vs.length:=⟨_,rfl⟩;rw[<-fA]at CA lA HLT;rw[<-kl]at CB lB HLT;have uY:=ag fA;have I4:=ag kl;clear hu hv dh fA kl;go_enter Tryz.func149,Tryz.ntmps149
 go_wp2_with fail
 refine(ae CA).mono ?_;rintro e w1 ⟨rfl,rfl⟩
 go_wp2_with fail
 refine(ae CB).mono ?_;rintro e w2 ⟨rfl,rfl⟩;clear CA CB;by_cases h1:la<lb
 ·go_wp2
  go_ret2
  exact Fz (aj _ _) (ae HLT h1)
 ·go_wp2_with fail
  refine(rk _ ga ba oa ca la us (ae uY).symm (by omega) rA).mono ?_;rintro e w3 ⟨rfl,k3,b3⟩
  go_wp2_with fail
  refine(Ir _ w2.heap.size 0 la la bb ob cb lb gb us vs (by rw[<-ae uY];omega) (ae I4).symm (by omega) (by omega) k3 cA.1 (rB.next b3) cB.1 (fun h=>by have:=rB.lt h;omega)).mono ?_;rintro e w4 ⟨c,zs,rfl,MZ,hl,hd,k4,g4,aeh⟩;rw[cL,cX,vA,vB]at aeh;have b4:=gS b3 g4 (af _) b3.size;clear g4 k3;rcases aeh with⟨rfl,Mj⟩|⟨rfl,Mj⟩
  ·have HV:=ag Mj;clear Mj
   go_wp2_with fail
   refine(nA (B:=w2.heap.size) (by omega) (by omega) (af _) k4 hd).mono ?_;rintro e w5 ⟨r,rfl,hr,rfl⟩;have hle:n<=m:=by have:=ae HV;omega
   have he:aB zs=m-n:=by have:=ae HV;omega
   rw[he]at hr;clear he;go_wp2
   go_ret2
   exact Ol b4 hle hr
  ·go_wp2
   go_ret2
   exact Fz b4 Mj
theorem nO(w:World)(u:Value)(m:Nat)(hu:fI w u m):Calls Tryz.prog 93 #[u] w fun e w'=>∃r,e=.returned r/\aU w.heap.size w' r m/\Below w.heap.size w w':=by
 obtain⟨ga,ba,oa,ca,us,rA,cA,vA,lA,CA⟩:=lM hu;have CA:=ag CA;obtain⟨la,fA⟩:∃la,la=us.length:=⟨_,rfl⟩;rw[<-fA]at CA lA;have uY:=ag fA;clear hu fA;go_enter Tryz.func93,Tryz.ntmps93
 go_wp2_with fail
 refine(ae CA).mono ?_;rintro e w1 ⟨rfl,rfl⟩;clear CA
 go_wp2_with fail
 refine(rk _ ga ba oa ca la us (ae uY).symm (by omega) rA).mono ?_;rintro e w3 ⟨rfl,k3,b3⟩;go_wp2;go_ret;refine⟨_,rfl,⟨us,cA,vA,Or.inr ⟨w1.heap.size,[],af _,?_,by rw[dU];exact k3,by rw[<-ae uY];simp;omega⟩⟩,b3⟩;rw[dU, <-ae uY];rfl
theorem Fo(w:World)(x:Nat)(hx:x<18446744073709551616):Calls Tryz.prog 67 #[.int .u64 (x:Int)] w fun e w'=>∃r,e=.returned r/\aU w.heap.size w' r x/\Below w.heap.size w w':=by
 have hk:cW (w.alloc (.cells #[.int .u64 (x:Int)] 47)) w.heap.size [x]:=aI w _;have hb:Below w.heap.size w (w.alloc (.cells #[.int .u64 (x:Int)] 47)):=(aj _ _).alloc (af _) _;have CT:=ag (nA (N:=1) rfl (by omega) (af _) hk (LK hx));have HB:=ag hb;rw[Dx]at CT;clear hk hb;go_enter Tryz.func67,Tryz.ntmps67
 go_wp2_with fail
 refine(ae CT).mono ?_;rintro e w3 ⟨r,rfl,hr,rfl⟩;go_wp2;go_ret;exact⟨r,rfl,hr,ae HB⟩
end
section
def Y9(z0 zs bs:List Nat)(y o k c:Nat):Prop:=
 zs.length=z0.length/\bG zs/\c<18446744073709551616/\aB zs+18446744073709551616^(o+k)*c=aB z0+18446744073709551616^o*(y*aB (bs.take k))/\
  ∀j,o+k<=j->zs.getD j 0=z0.getD j 0
theorem aaG(h:bG z0)(bs:List Nat)(y o:Nat):Y9 z0 z0 bs y o 0 0:=⟨rfl,h,by omega,by simp[aB],fun _ _=>rfl⟩
theorem aaF{h0 l0 l1 c1 h1:Nat}(hb:b<18446744073709551616)(hy:y<18446744073709551616)(hc:c<18446744073709551616)(hr:r<18446744073709551616)(e0:h0=b*y/18446744073709551616)(e1:l0=b*y%18446744073709551616)(e2:l1=(l0+c+0)%18446744073709551616)(e3:c1=(l0+c+0)/18446744073709551616)(e4:h1=h0+c1)(e5:d=(r+l1+0)%18446744073709551616)(e6:c2=(r+l1+0)/18446744073709551616)(e7:c3=h1+c2):h1<18446744073709551616/\c3<18446744073709551616/\d<18446744073709551616/\d+18446744073709551616*c3=r+b*y+c:=by
 have hp:b*y<=18446744073709551615*18446744073709551615:=aP (by omega) (by omega);generalize b*y=p at *;omega
theorem ada{bs:List Nat}(h:Y9 z0 zs bs y o k c)(hk:o+k<zs.length)(hr:r=zs.getD (o+k) 0)(hb:b=bs.getD k 0)(hd:d<18446744073709551616)(hc3:c3<18446744073709551616)(he:d+18446744073709551616*c3=r+b*y+c):Y9 z0 (zs.set (o+k) d) bs y o (k+1) c3:=by
 obtain⟨h1,h2,h3,h4,h5⟩:=h;refine⟨by simpa using h1,iX h2 hk hd,hc3,?_,fun j hj=>?_⟩
 ·have hs:=ju zs (o+k) d hk;rw[<-hr]at hs;rw[cQ, <-hb,aH y,dW y,aH, <-aF (18446744073709551616^o) (18446744073709551616^k), <-aQ, <-dt o k 1,aE,aF (18446744073709551616^(o+k))];have e:18446744073709551616^(o+k)*d+18446744073709551616^(o+k)*(18446744073709551616*c3)=18446744073709551616^(o+k)*r+18446744073709551616^(o+k)*(y*b)+18446744073709551616^(o+k)*c:=by rw[<-aH,he,aH,aH,aC b y]
  omega
 ·rw[<-h5 j (by omega)];simp[List.getD_eq_getElem?_getD,show ¬o+k=j by omega]
def yF(zs:List Nat)(k:Nat):Prop:=∀j,k<=j->zs.getD j 0=0
theorem rM(n k:Nat):yF (List.replicate n 0) k:=fun j _=>by simp[List.getD_eq_getElem?_getD,List.getElem?_replicate];split<;>rfl
theorem ot:∀n,aB (List.replicate n 0)=0
 |0=>rfl
 |n+1=>by rw[ij,aB,ot n]
theorem oq(n:Nat):bG (List.replicate n 0):=fun j=>by rw[rM n 0 j (by omega)];omega
theorem abx{bs:List Nat}(h:Y9 z0 zs bs y o k c)(hk:bs.length<=k)(hz:yF z0 (o+k))(ho:o+k<zs.length):(zs.set (o+k) c).length=z0.length/\bG (zs.set (o+k) c)/\aB (zs.set (o+k) c)=aB z0+18446744073709551616^o*(y*aB bs)/\yF (zs.set (o+k) c) (o+k+1):=by
 obtain⟨h1,h2,h3,h4,h5⟩:=h;refine⟨by simpa using h1,iX h2 ho h3,?_,fun j hj=>?_⟩
 ·have hs:=ju zs (o+k) c ho;rw[h5 _ (af _),hz _ (af _),dO]at hs;rw[eZ _ _ hk]at h4;omega
 ·have:(zs.set (o+k) c).getD j 0=zs.getD j 0:=by simp[List.getD_eq_getElem?_getD,show ¬o+k=j by omega]
  rw[this,h5 j (by omega),hz j (by omega)]
def QA(xs bs zs:List Nat)(N k:Nat):Prop:=zs.length=N/\bG zs/\aB zs=aB xs*aB (bs.take k)/\yF zs (k+xs.length)
theorem V_(xs bs:List Nat)(N:Nat):QA xs bs (List.replicate N 0) N 0:=⟨by simp,oq _,by rw[ot];simp[aB],rM _ _⟩
theorem acS{bs:List Nat}{N:Nat}(h:QA xs bs z0 N k)(hs:Y9 z0 zs xs y k xs.length c)(hy:y=bs.getD k 0)(hk:k+xs.length<N):QA xs bs (zs.set (k+xs.length) c) N (k+1):=by obtain⟨h1,h2,h3,h4⟩:=h;obtain⟨t1,t2,t3,t4⟩:=abx hs (af _) h4 (by rw[hs.1,h1];exact hk);refine⟨by rw[t1,h1],t2,?_,fun j hj=>t4 j (by omega)⟩;rw[t3,h3,cQ, <-hy,aH,dW (aB xs),aC (aB xs) y]
def a_(xs:List Nat):Nat->Nat
 |0=>0
 |k+1=>a_ xs k+18446744073709551616^(2*k+1)*(xs.getD k 0*aB (xs.drop (k+1)))
def sqs(xs:List Nat):Nat->Nat
 |0=>0
 |k+1=>sqs xs k+18446744073709551616^(2*k)*(xs.getD k 0*xs.getD k 0)
theorem El(xs:List Nat)(k:Nat):aB (xs.drop k)=xs.getD k 0+18446744073709551616*aB (xs.drop (k+1)):=by
 by_cases h:k<xs.length
 ·rw[cK h,aB,iK h]
 ·rw[aT (by omega),aT (by omega),jo (by omega)];simp[aB]
theorem aaL(p B x v:Nat):p*((x+B*v)*(x+B*v))=p*(x*x)+p*B*(x*v)+p*B*(x*v)+p*B*B*(v*v):=by
 have e:(x+B*v)*(x+B*v)=x*x+B*(x*v)+B*(x*v)+B*B*(v*v):=by rw[aH,aX,aX,aC (B*v) x,dW x B v,aF B v,dW v B v, <-aF B B];omega
 rw[e,aH,aH,aH, <-aF p B (x*v), <-aF p (B*B), <-aF p B B]
theorem Ym(c s t1 t2 t3:Nat):c+t1+(c+t1)+(s+t3)+t2=c+c+s+(t3+t1+t1+t2):=by omega
theorem Dc(xs:List Nat):∀k,a_ xs k+a_ xs k+sqs xs k+18446744073709551616^(2*k)*(aB (xs.drop k)*aB (xs.drop k))=aB xs*aB xs
 |0=>by simp[a_,sqs]
 |k+1=>by rw[<-Dc xs k,El xs k,a_,sqs,aaL,show 2*(k+1)=2*k+1+1 from by omega,aE,aE];exact Ym _ _ _ _ _
theorem Tu(xs:List Nat)(n:Nat)(h:xs.length<=n):a_ xs n+a_ xs n+sqs xs n=aB xs*aB xs:=by have:=Dc xs n;rw[aT h]at this;simpa [aB]using this
def Qv(xs zs:List Nat)(n k:Nat):Prop:=zs.length=2*n/\bG zs/\aB zs=a_ xs k/\yF zs (k+n)
theorem ZZ(xs:List Nat)(n:Nat):Qv xs (List.replicate (2*n) 0) n 0:=⟨by simp,oq _,by rw[ot];rfl,rM _ _⟩
theorem ab0(h:Qv xs z0 n k)(hs:Y9 z0 zs (xs.drop (k+1)) y (2*k+1) (n-(k+1)) c)(hy:y=xs.getD k 0)(hl:xs.length=n)(hk:k<n):Qv xs (zs.set (k+n) c) n (k+1):=by
 obtain⟨h1,h2,h3,h4⟩:=h;have e:2*k+1+(n-(k+1))=k+n:=by omega
 obtain⟨t1,t2,t3,t4⟩:=abx hs (by simp;omega) (by rw[e];exact h4) (by rw[hs.1,h1];omega);rw[e]at t1 t2 t3 t4;refine⟨by rw[t1,h1],t2,?_,fun j hj=>t4 j (by omega)⟩;rw[t3,h3,a_, <-hy]
def QE(xs zs:List Nat)(n k:Nat):Prop:=zs.length=2*n/\bG zs/\aB zs=sqs xs k/\yF zs (2*k)
theorem aat(xs:List Nat)(n:Nat):QE xs (List.replicate (2*n) 0) n 0:=⟨by simp,oq _,by rw[ot];rfl,rM _ _⟩
theorem ac3{x:Nat}(h:QE xs zs n k)(hx:x=xs.getD k 0)(hk:k<n)(hh:hi<18446744073709551616)(hl:lo<18446744073709551616)(he:18446744073709551616*hi+lo=x*x):QE xs ((zs.set (2*k+1) hi).set (2*k) lo) n (k+1):=by
 obtain⟨h1,h2,h3,h4⟩:=h;have d1:=iX h2 (k:=2*k+1) (by omega) hh;refine⟨by simpa using h1,iX d1 (by simp;omega) hl,?_,fun j hj=>?_⟩
 ·have s1:=ju zs (2*k+1) hi (by omega);rw[h4 _ (by omega),dO]at s1;have s2:=ju (zs.set (2*k+1) hi) (2*k) lo (by simp;omega);have:(zs.set (2*k+1) hi).getD (2*k) 0=zs.getD (2*k) 0:=by simp[List.getD_eq_getElem?_getD]
  rw[this,h4 _ (by omega),dO]at s2;rw[sqs, <-hx, <-he,aH, <-aF, <-aE];show _=_+(18446744073709551616^(2*k+1)*hi+_);omega
 ·have:((zs.set (2*k+1) hi).set (2*k) lo).getD j 0=zs.getD j 0:=by simp[List.getD_eq_getElem?_getD,show ¬2*k+1=j by omega,show ¬2*k=j by omega]
  rw[this,h4 j (by omega)]
end
section
open Go.RowKit
theorem wX(w:World)(g o n cap bb ob cb lb y:Nat)(gb:Option Addr)(z0 bs:List Nat)(hz:z0.length=o+n)(wc:bs.length=lb)(kl:lb<=n)(hn:o+n<=1099511627776)(hy:y<18446744073709551616)(hZ:cW w g z0)(dz:bG z0)(hB:cH w gb bb ob cb bs)(db:bG bs)(hne:0<bs.length->bb≠g):Calls Tryz.prog 168 #[.slice (some ⟨g,o,none⟩) n cap,.slice gb lb cb,.int .u64 (y:Int)] w fun e w'=>∃(c:Nat) (zs:List Nat),e=.returned (.int .u64 (c:Int))/\Y9 z0 zs bs y o lb c/\cW w' g zs/\w.grownBy w' (some g):=by
 have UD:=ag hne;clear hne;go_enter Tryz.func168,Tryz.ntmps168;go_wp2
 go_loopw [6,14] (fun c i wr=>∃(k cy:Nat) (zs:List Nat),k<=lb/\c=.int .u64 (cy:Int)/\i=.int .i64 (k:Int)/\cy<18446744073709551616/\cW wr g zs/\Hid (Y9 z0 zs bs y o k cy)/\cH wr gb bb ob cb bs/\w.grownBy wr (some g))
  (fun _ i _=>lb-(intOf i).toNat)
 case atStart=>exact⟨0,0,z0,aO _,rfl,rfl,by omega,hZ,aaG dz bs y o,hB,iD _ _⟩
 case round=>
  obtain⟨k,cy,zs,hk,rfl,rfl,zH,ef,fN,xx,hG⟩:=hrel;have kG:zs.length=o+n:=by rw[fN.out.1];exact hz
  by_cases h1:k<lb
  ·obtain rfl:=xx.head (by omega);obtain⟨b,hb⟩:∃b:Nat,b=bs.getD k 0:=⟨_,rfl⟩;have qe:b<18446744073709551616:=by rw[hb];exact db k
   have cb:wr.cell? ⟨bb,ob+k,none⟩=some (.int .u64 (b:Int)):=by rw[hb];exact xx.cell k (by omega)
   obtain⟨r,hr⟩:∃r:Nat,r=zs.getD (o+k) 0:=⟨_,rfl⟩;have Nk:r<18446744073709551616:=by rw[hr];exact fN.out.2.1 _
   have cr:wr.cell? ⟨g,o+k,none⟩=some (.int .u64 (r:Int)):=by rw[hr];exact ef.cell (o+k) (by omega)
   have fr:=ef.frozen (o+k);obtain⟨h0,e0⟩:∃h0,h0=b*y/18446744073709551616:=⟨_,rfl⟩;obtain⟨l0,e1⟩:∃l0,l0=b*y%18446744073709551616:=⟨_,rfl⟩;obtain⟨l1,e2⟩:∃l1,l1=(l0+cy+0)%18446744073709551616:=⟨_,rfl⟩;obtain⟨c1,e3⟩:∃c1,c1=(l0+cy+0)/18446744073709551616:=⟨_,rfl⟩;obtain⟨J1,e4⟩:∃J1,J1=h0+c1:=⟨_,rfl⟩;obtain⟨d,e5⟩:∃d,d=(r+l1+0)%18446744073709551616:=⟨_,rfl⟩;obtain⟨c2,e6⟩:∃c2,c2=(r+l1+0)/18446744073709551616:=⟨_,rfl⟩;obtain⟨c3,e7⟩:∃c3,c3=J1+c2:=⟨_,rfl⟩;obtain⟨q1,q2,q3,q4⟩:=aaF qe hy zH Nk e0 e1 e2 e3 e4 e5 e6 e7;have H2:=ag (ada fN.out (by omega) hr hb q3 q2 q4);have CM:=ag (fun w=>nC b y w qe hy);have CA:=ag (fun w=>lN l0 cy 0 0 w (Or.inl ⟨rfl,rfl⟩));have CB:=ag (fun w=>lN r l1 0 0 w (Or.inl ⟨rfl,rfl⟩));rw[<-e0, <-e1]at CM;rw[<-e2, <-e3]at CA;rw[<-e5, <-e6]at CB;have E4:(h0:Int)+(c1:Int)=(J1:Int):=(by omega);have E7:(J1:Int)+(c2:Int)=(c3:Int):=(by omega);clear hr hb e0 e1 e2 e3 e4 e5 e6 e7 q4
   go_wp2_with fail
   refine(ae CM _).mono ?_;rintro e w1 ⟨rfl,rfl⟩
   go_wp2_with fail
   refine(ae CA _).mono ?_;rintro e w2 ⟨rfl,rfl⟩
   go_wp2_with fail
   refine(ae CB _).mono ?_;rintro e w3 ⟨rfl,rfl⟩;go_wp2;exact⟨⟨k+1,c3,_,by omega,by first|rfl|exact gi (Value.int .u64) E7,by go_num,q2,ef.set (o+k) d,H2,xx.but (aY _ _ _ _) (ae UD),cj hG (aY _ _ _ _)⟩,by simp[intOf];omega⟩
  ·obtain rfl:k=lb:=(by omega);go_wp2;go_ret;exact⟨cy,zs,rfl,fN.out,ef,hG⟩
theorem mZ(w:World)(n:Nat):cW (w.alloc (.cells (dS n).toArray 47)) w.heap.size (List.replicate n 0):=aI w _
theorem cH.drop(h:cH w ga b o cap xs)(s:Nat)(hs:s<=xs.length):cH w (some ⟨b,o+s,none⟩) b (o+s) (cap-s) (xs.drop s):=
 ⟨fun _=>rfl,by have:=h.room;simp;omega,fun j hj=>by
  have hj':s+j<xs.length:=by simp at hj;omega
  have:=h.cell (s+j) hj';rw[dt,this];simp[List.getD_eq_getElem?_getD]⟩
theorem Ra(w:World)(ga:Option Addr)(b o cap n:Nat)(xs:List Nat)(hl:xs.length=n)(hn:n<=268435456)(hR:cH w ga b o cap xs)(dx:bG xs):Calls Tryz.prog 152 #[.slice ga n cap] w fun e w'=>∃zs,e=.returned (.slice (some ⟨w.heap.size,0,none⟩) (2*n) (2*n))/\Qv xs zs n n/\cW w' w.heap.size zs/\Below w.heap.size w w':=by
 have vp:=ag (ZZ xs n);have sj:=ag (mZ w (2*n));obtain⟨N,hN⟩:∃N,N=2*n:=⟨_,rfl⟩;have hN':2*(n:Int)=(N:Int):=by omega
 rw[<-hN]at vp sj ⊢;have qG:=iV N N (2*(n:Int)) hN' rfl (by omega);have yA:=ag ((aj w.heap.size w).alloc (af _) (.cells (dS N).toArray 47));have ks:=hR.room;rw[hl]at ks;have xA:2*n<=536870912:=by omega
 have HN:=ag hN;clear hN hN' hn;go_enter Tryz.func152,Tryz.ntmps152;go_wp2
 go_loopw [12] (fun i wr=>∃(k:Nat) (zs:List Nat),k<=n/\i=.int .i64 (k:Int)/\cW wr w.heap.size zs/\Hid (Qv xs zs n k)/\Below w.heap.size w wr)
  (fun i _=>n-(intOf i).toNat)
 case atStart=>exact⟨0,_,aO _,rfl,ae sj,vp,ae yA⟩
 case round=>
  obtain⟨k,z0,hk,rfl,ef,fN,en⟩:=hrel;have kG:z0.length=2*n:=fN.out.1;by_cases h1:k<n
  ·obtain rfl:=hR.head (by omega);obtain⟨y,hy⟩:∃y:Nat,y=xs.getD k 0:=⟨_,rfl⟩;have Kd:y<18446744073709551616:=by rw[hy];exact dx k
   have Bv:=hR.next en;have cy:wr.cell? ⟨b,o+k,none⟩=some (.int .u64 (y:Int)):=by rw[hy];exact Bv.cell k (by omega)
   obtain⟨p0,DT⟩:∃p0,p0=2*k:=⟨_,rfl⟩;obtain⟨p,hp⟩:∃p,p=2*k+1:=⟨_,rfl⟩;obtain⟨s,hs⟩:∃s,s=k+1:=⟨_,rfl⟩;obtain⟨M,hM⟩:∃M,N=p+M:=⟨N-p,by have:=ae HN;omega⟩;obtain⟨l,kl⟩:∃l,l=n-(k+1):=⟨_,rfl⟩;obtain⟨cc,qW⟩:∃cc,cc=cap-s:=⟨_,rfl⟩;have Zd:cH w (some ⟨b,o+s,none⟩) b (o+s) cc (xs.drop s):=by rw[qW];exact hR.drop s (by omega)
   have hld:(xs.drop s).length=l:=by simp;omega
   have hne:0<(xs.drop s).length->b≠w.heap.size:=fun h=>by have:=hR.lt (by omega);omega
   have CA:=ag (fun gb cx W (hB:cW W w.heap.size z0) (hr:cH W gb b (o+s) cx (xs.drop s))=>wX W w.heap.size p M M b (o+s) cx l y gb z0 (xs.drop s) (by rw[kG, <-ae HN,hM]) hld (by have:=ae HN;omega) (by have:=ae HN;omega) Kd hB fN.out.2.1 hr (fJ dx s) hne);have HRD:=ag Zd;have HLD:=ag hld;have e1:2*(k:Int)=(p0:Int):=(by omega);have e2:(p0:Int)+1=(p:Int):=(by omega);have e3:(k:Int)+1=(s:Int):=(by omega);have DV:IntKind.i64.wrap (p0:Int)=(p0:Int):=by rw[ao];omega
   have DX:IntKind.i64.wrap (p:Int)=(p:Int):=by rw[ao];omega
   have hw2:IntKind.i64.wrap (s:Int)=(s:Int):=by rw[ao];omega
   have i1:0<=(p:Int)/\(p:Int)<=(N:Int):=by have:=ae HN;omega
   have i2:0<=(s:Int)/\(s:Int)<=(n:Int):=(by omega);have i3:p<=N:=(by omega);have i4:N-p=M:=(by omega);have i5:¬N=p:=by have:=ae HN;omega
   have i6:s<=n:=(by omega);have i7:n-s=l:=(by omega);have i8:cap-s=cc:=(by omega);obtain⟨t,ht⟩:∃t,t=k+n:=⟨_,rfl⟩;have e4:(k:Int)+(n:Int)=(t:Int):=(by omega);have H_:IntKind.i64.wrap (t:Int)=(t:Int):=by rw[ao];omega
   have i9:0<=(t:Int)/\(t:Int)<(N:Int):=by have:=ae HN;omega
   have i10:t<N:=(by omega);have hzN:z0.length=N:=by rw[kG];exact(ae HN).symm
   have HZN:=ag hzN;have HT:=ag ht;have HM:=ag hM;have HY:=ag hy;have HS:=ag hs;have HP:=ag hp;have I4:=ag kl;clear hzN kG ht hy DT hp hs hM kl qW hne hld Zd qG sj vp yA Bv;have adv:Hid (cap=s->∀W gb cx,cH W gb b (o+s) cx (xs.drop s)):=fun h W gb cx=>by rw[aT (by omega)];exact cH.nil _ _ _ _ _
   have HC:Hid (∀c zs,Y9 z0 zs (xs.drop s) y p l c->Qv xs (zs.set t c) n s):=fun c zs h=>by have hh:=HS.out;have hh2:=HP.out;have hh3:=I4.out;have hh4:=HT.out;subst hh hh2 hh3 hh4;exact ab0 fN.out h HY.out hl h1
   have kF:=en.size;by_cases sH:cap=s
   ·have adw:=ag (adv.out sH);clear i8 adv;obtain rfl:=sH.symm;go_wp2
    go_region_with (go_at_call 168;refine(ae CA _ _ _ ?_ ?_).mono ?_;exact ef;exact ae adw _ _ _;rintro e w4 ⟨c,zs,rfl,hS,k4,g4⟩;have c4:=k4.cell t (by rw[hS.1,ae HZN];omega);have f4:=k4.frozen t;have hS:=ag hS)
    go_wp2
    go_roundw
    case rel=>exact⟨s,zs.set t c,by omega,rfl,k4.set t c,ae HC _ _ hS.out,(gS en.drew g4 (af _) kF).setCell (af _) _⟩
    case measure=>simp[intOf];omega
   ·go_wp2
    go_region_with (go_at_call 168;refine(ae CA _ _ _ ?_ ?_).mono ?_;exact ef;exact(ae HRD).next en.drew;rintro e w4 ⟨c,zs,rfl,hS,k4,g4⟩;have c4:=k4.cell t (by rw[hS.1,ae HZN];omega);have f4:=k4.frozen t;have hS:=ag hS)
    go_wp2;exact⟨⟨s,zs.set t c,by omega,rfl,k4.set t c,ae HC _ _ hS.out,(gS en.drew g4 (af _) kF).setCell (af _) _⟩,by simp[intOf];omega⟩
  ·obtain rfl:k=n:=(by omega);go_wp2;go_ret;exact⟨z0,rfl,fN.out,ef,en⟩
theorem Lr(w:World)(ga:Option Addr)(b o cap n:Nat)(xs:List Nat)(hl:xs.length=n)(hn:n<=268435456)(hR:cH w ga b o cap xs)(dx:bG xs):Calls Tryz.prog 154 #[.slice ga n cap] w fun e w'=>∃zs,e=.returned (.slice (some ⟨w.heap.size,0,none⟩) (2*n) (2*n))/\QE xs zs n n/\cW w' w.heap.size zs/\Below w.heap.size w w':=by
 have vp:=ag (aat xs n);have sj:=ag (mZ w (2*n));obtain⟨N,hN⟩:∃N,N=2*n:=⟨_,rfl⟩;have hN':2*(n:Int)=(N:Int):=by omega
 rw[<-hN]at vp sj ⊢;have qG:=iV N N (2*(n:Int)) hN' rfl (by omega);have yA:=ag ((aj w.heap.size w).alloc (af _) (.cells (dS N).toArray 47));have xA:2*n<=536870912:=by omega
 have HN:=ag hN;clear hN hN' hn;go_enter Tryz.func154,Tryz.ntmps154;go_wp2
 go_loopw [12] (fun i wr=>∃(k:Nat) (zs:List Nat),k<=n/\i=.int .i64 (k:Int)/\cW wr w.heap.size zs/\Hid (QE xs zs n k)/\Below w.heap.size w wr)
  (fun i _=>n-(intOf i).toNat)
 case atStart=>exact⟨0,_,aO _,rfl,ae sj,vp,ae yA⟩
 case round=>
  obtain⟨k,z0,hk,rfl,ef,fN,en⟩:=hrel;have kG:z0.length=2*n:=fN.out.1;by_cases h1:k<n
  ·obtain rfl:=hR.head (by omega);obtain⟨y,hy⟩:∃y:Nat,y=xs.getD k 0:=⟨_,rfl⟩;have Kd:y<18446744073709551616:=by rw[hy];exact dx k
   have Bv:=hR.next en;have cy:wr.cell? ⟨b,o+k,none⟩=some (.int .u64 (y:Int)):=by rw[hy];exact Bv.cell k (by omega)
   obtain⟨p0,DT⟩:∃p0,p0=2*k:=⟨_,rfl⟩;obtain⟨p,hp⟩:∃p,p=2*k+1:=⟨_,rfl⟩;have e1:2*(k:Int)=(p0:Int):=(by omega);have e2:(p0:Int)+1=(p:Int):=(by omega);have DV:IntKind.i64.wrap (p0:Int)=(p0:Int):=by rw[ao];omega
   have DX:IntKind.i64.wrap (p:Int)=(p:Int):=by rw[ao];omega
   have i1:0<=(p:Int)/\(p:Int)<(N:Int):=by have:=ae HN;omega
   have i2:0<=(p0:Int)/\(p0:Int)<(N:Int):=by have:=ae HN;omega
   have i3:p<N:=(by omega);have i4:p0<N:=(by omega);have i5:¬p=p0:=(by omega);have hzN:z0.length=N:=by rw[kG];exact(ae HN).symm
   have c1:=ef.cell p (by omega);have c0:=ef.cell p0 (by omega);have f1:=ef.frozen p;have f0:=ef.frozen p0;obtain⟨hi,hh⟩:∃hi,hi=y*y/18446744073709551616:=⟨_,rfl⟩;obtain⟨lo,BH⟩:∃lo,lo=y*y%18446744073709551616:=⟨_,rfl⟩;have CM:=ag (fun w=>nC y y w Kd Kd);rw[<-hh, <-BH]at CM;have Un:18446744073709551616*hi+lo=y*y:=by rw[hh,BH];exact aS _ _
   have aec:lo<18446744073709551616:=by rw[BH];exact aD _ (by omega)
   have ad8:hi<18446744073709551616:=by rw[hh];exact qp (eU Kd Kd)
   have HC:Hid (QE xs ((z0.set p hi).set p0 lo) n (k+1)):=by subst hp DT;exact ac3 fN.out hy h1 ad8 aec Un
   clear hy DT hp hzN kG qG sj vp yA Bv hh BH Un
   go_wp2_with fail
   refine(ae CM _).mono ?_;rintro e w1 ⟨rfl,rfl⟩;go_wp2;exact⟨⟨k+1,(z0.set p hi).set p0 lo,by omega,by go_num,(ef.set p hi).set p0 lo,HC,(en.setCell (af _) _).setCell (af _) _⟩,by simp[intOf];omega⟩
  ·obtain rfl:k=n:=(by omega);go_wp2;go_ret;exact⟨z0,rfl,fN.out,ef,en⟩
theorem JB(x y:Nat)(w:World):Calls Tryz.prog 142 #[.int .i64 (x:Int),.int .i64 (y:Int)] w fun e w'=>e=.returned (.int .i64 (js x y))/\w'=w:=by
 have q1:((x:Int)!=(x:Int))=false:=by simp
 have q2:((y:Int)!=(y:Int))=false:=by simp
 rcases ig x y with h|h|h
 ·rw[jR h];have h1:(x:Int)<(y:Int):=by omega
  go_enter Tryz.func142,Tryz.ntmps142;go_wp2;go_ret;exact⟨rfl,rfl⟩
 ·rw[mO h];have h1:¬(x:Int)<(y:Int):=by omega
  have h2:¬(y:Int)<(x:Int):=by omega
  clear h;go_enter Tryz.func142,Tryz.ntmps142;go_wp2;go_ret;exact⟨rfl,rfl⟩
 ·rw[lG h];have h1:¬(x:Int)<(y:Int):=by omega
  have h2:(y:Int)<(x:Int):=by omega
  go_enter Tryz.func142,Tryz.ntmps142;go_wp2;go_ret;exact⟨rfl,rfl⟩
theorem JC(x y:Nat)(w:World):Calls Tryz.prog 143 #[.int .u64 (x:Int),.int .u64 (y:Int)] w fun e w'=>e=.returned (.int .i64 (js x y))/\w'=w:=by
 have q1:((x:Int)!=(x:Int))=false:=by simp
 have q2:((y:Int)!=(y:Int))=false:=by simp
 rcases ig x y with h|h|h
 ·rw[jR h];have h1:(x:Int)<(y:Int):=by omega
  go_enter Tryz.func143,Tryz.ntmps143;go_wp2;go_ret;exact⟨rfl,rfl⟩
 ·rw[mO h];have h1:¬(x:Int)<(y:Int):=by omega
  have h2:¬(y:Int)<(x:Int):=by omega
  clear h;go_enter Tryz.func143,Tryz.ntmps143;go_wp2;go_ret;exact⟨rfl,rfl⟩
 ·rw[lG h];have h1:¬(x:Int)<(y:Int):=by omega
  have h2:(y:Int)<(x:Int):=by omega
  go_enter Tryz.func143,Tryz.ntmps143;go_wp2;go_ret;exact⟨rfl,rfl⟩
theorem SL{P:Program}{f:FuncId}{args:Array Value}(h:Calls P f args (w.drewN (q+n)) fun e w'=>e=.returned v/\w'=w.drewN (q+n)):Calls P f args (w.drewN (q+n)) fun e sP=>e=.returned v/\∃m,sP=w.drewN (q+m):=
 h.mono fun _ _ ⟨he,hm⟩=>⟨he,n,hm⟩
theorem O6(h1:a<b->m<n)(h2:b<a->n<m)(h:a≠b):js a b=js m n:=by
 rcases ig a b with k|k|k
 ·rw[jR k,jR (h1 k)]
 ·exact absurd k h
 ·rw[lG k,lG (h2 k)]
theorem EC(w:World)(u v:Value)(m n:Nat)(hu:fI w u m)(hv:fI w v n):Calls Tryz.prog 112 #[u,v] w fun e w'=>e=.returned (.int .i64 (js m n))/\Below w.heap.size w w':=by
 obtain⟨ga,ba,oa,ca,us,rA,cA,vA,lA,CA⟩:=lM hu;obtain⟨gb,bb,ob,cb,vs,rB,cB,vB,lB,CB⟩:=lM hv;have CA:=ag CA;have CB:=ag CB;obtain⟨la,fA⟩:∃la,la=us.length:=⟨_,rfl⟩;obtain⟨lb,kl⟩:∃lb,lb=vs.length:=⟨_,rfl⟩;rw[<-fA]at CA lA;rw[<-kl]at CB lB;have uY:=ag fA;have I4:=ag kl;subst vA vB;obtain⟨C,hC⟩:∃C,C=js (aB us) (aB vs):=⟨_,rfl⟩;rw[<-hC];have HC:=ag hC;clear hu hv fA kl hC;go_enter Tryz.func112,Tryz.ntmps112
 go_wp2_with fail
 refine(ae CA).mono ?_;rintro e w1 ⟨rfl,rfl⟩
 go_wp2_with fail
 refine(ae CB).mono ?_;rintro e w2 ⟨rfl,rfl⟩;clear CA CB;by_cases h1:la=lb
 ·subst h1;have q1:((la:Int)!=(la:Int))=false:=by simp
  go_wp2
  go_loopw [5] (fun i wr=>∃k:Nat,k<=la/\i=.int .i64 ((k:Int)-1)/\Hid (us.drop k=vs.drop k)/\Below w2.heap.size w2 wr) (fun i _=>(intOf i+1).toNat)
  case atStart=>exact⟨la,af _,rfl,by show _=_;rw[aT (by rw[<-ae uY];omega),aT (by rw[<-ae I4];omega)],aj _ _⟩
  case round=>
   obtain⟨k,hk,rfl,hD,en⟩:=hrel;by_cases h0:k=0
   ·subst h0;have he:us=vs:=by have:=hD.out;simpa using this
    have E:Hid ((0:Int)=C):=by show _=_;rw[ae HC,he,mO rfl]
    clear he;go_wp2;go_ret;exact⟨bY (ae E),en⟩
   ·obtain⟨j,rfl⟩:∃j,k=j+1:=⟨k-1,by omega⟩;obtain rfl:=rA.head (by rw[<-ae uY];omega);obtain rfl:=rB.head (by rw[<-ae I4];omega);obtain⟨x,hx⟩:∃x:Nat,x=us.getD j 0:=⟨_,rfl⟩;obtain⟨y,hy⟩:∃y:Nat,y=vs.getD j 0:=⟨_,rfl⟩;have ej:((j+1:Nat):Int)-1=(j:Int):=(by omega);rw[ej];have cx:wr.cell? ⟨ba,oa+j,none⟩=some (.int .u64 (x:Int)):=by rw[hx];exact(en.cell (by exact rA.lt (by rw[<-ae uY];omega))).trans (rA.cell j (by rw[<-ae uY];omega))
    have cy:wr.cell? ⟨bb,ob+j,none⟩=some (.int .u64 (y:Int)):=by rw[hy];exact(en.cell (by exact rB.lt (by rw[<-ae I4];omega))).trans (rB.cell j (by rw[<-ae I4];omega))
    by_cases hxy:x=y
    ·have H2:Hid (us.drop j=vs.drop j):=uC j (by rw[<-ae uY];omega) (by rw[<-ae uY, <-ae I4]) hD.out (by rw[<-hx, <-hy];exact hxy);subst hxy;have s2:((x:Int)!=(x:Int))=false:=(by simp);clear hx hy;go_wp2
     go_quiet (fail)
     go_wp2;exact⟨⟨j,by omega,rfl,H2,below_drewN en _⟩,by simp[intOf]⟩
    ·have hc:js x y=js (aB us) (aB vs):=O6 (fun h=>rW cA.1 j hD.out (by rw[<-hx, <-hy];exact h)) (fun h=>rW cB.1 j hD.out.symm (by rw[<-hx, <-hy];exact h)) hxy;have s2:((x:Int)!=(y:Int))=true:=by rw[kd];omega
     have CC:=ag (fun w=>JC x y w);have E:Hid (js x y=C):=by show _=_;rw[ae HC,hc]
     generalize js x y=cc at *;clear hx hy hc hxy;go_wp2
     go_quiet (fail)
     go_wp2
     go_quiet ((go_at_call 143;exact SL (ae CC _)))
     go_wp2;go_ret;exact⟨bY (ae E),below_drewN (below_drewN en _) _⟩
 ·have hc:js la lb=js (aB us) (aB vs):=O6 (fun h=>uX cA.1 cB (by rw[<-ae uY, <-ae I4];exact h)) (fun h=>uX cB.1 cA (by rw[<-ae uY, <-ae I4];exact h)) h1;have q1:((la:Int)!=(lb:Int))=true:=by rw[kd];omega
  have CC:=ag (fun w=>JB la lb w);have E:Hid (js la lb=C):=by show _=_;rw[ae HC,hc]
  generalize js la lb=cc at *;clear hc h1
  go_wp2_with fail
  refine(ae CC _).mono ?_;rintro e w3 ⟨rfl,rfl⟩;go_wp2;go_ret;exact⟨bY (ae E),aj _ _⟩
theorem FR(h:iS us):us.length=0↔aB us=0:=by
 constructor
 ·intro e;obtain rfl:us=[]:=dQ.1 e;rfl
 ·intro e;have:=mT h (L:=0) (by rw[e];decide);omega
theorem WW(h:fI w v n):∃l,l<=1073741824/\(∀us,iS us->aB us=n->us.length=l)/\(l=0↔n=0)/\Calls Tryz.prog 57 #[v] w fun e w'=>e=.returned (.int .i64 (l:Int))/\w'=w:=by
 obtain⟨ga,b,o,cap,xs,rfl,hr,hd,hv,hl⟩:=h;have hc:=ku hd;have hle:=fZ xs xs.length;refine⟨fV xs xs.length,by omega,fun us h1 h2=>?_,?_,pG w ga b o cap _ xs rfl (by omega) hr⟩
 ·rw[<-ep,uf h1 hc (by rw[jN,h2,hv])]
 ·rw[<-ep,FR hc,jN,hv]
theorem pQ(h:fI w v n)(b:Bool)(hb:b=decide (n=0)):Calls Tryz.prog 77 #[v] w fun e w'=>e=.returned (.bool b)/\w'=w:=by
 obtain⟨l,h1,h2,h3,CL⟩:=WW h;have CL:=ag CL;have hq:((l:Int)==0)=b:=by
  rw[hb];by_cases hn:n=0
  ·have:l=0:=h3.2 hn;subst this;simp[hn]
  ·have:l≠0:=fun e=>hn (h3.1 e);simp[hn];omega
 clear h h2 h3 hb;go_enter Tryz.func77,Tryz.ntmps77
 go_wp2_with fail
 refine(ae CL).mono ?_;rintro e w' ⟨rfl,rfl⟩;clear CL;go_wp2;go_ret;exact⟨rfl,rfl⟩
theorem wu(z:Int)(most k:Nat)(w:World)(hk:(k:Int)=min (max z 0) (most:Int)):Calls Tryz.prog 151 #[.int .i64 z,.int .i64 (most:Int)] w fun e w'=>e=.returned (.int .i64 (k:Int))/\w'=w:=by have HK:=ag hk;clear hk;go_enter Tryz.func151,Tryz.ntmps151;go_wp2;go_ret;exact⟨bY (ae HK).symm,rfl⟩
structure wO(w:World)(gp:Option Addr)(bp op:Nat)(vs:List Value)(ns:List Nat):Prop where
 head:0<vs.length->gp=some ⟨bp,op,none⟩
 len:ns.length=vs.length
 cell:∀j,j<vs.length->w.cell? ⟨bp,op+j,none⟩=some (vs.getD j undef)
 each:∀j,j<vs.length->fI w (vs.getD j undef) (ns.getD j 0)
theorem wO.lt{gp:Option Addr}{bp op:Nat}{vs:List Value}(h:wO w gp bp op vs ns)(h0:0<vs.length):bp<w.heap.size:=aw _ _ (h.cell 0 h0)
def mC(k:Nat)(ns:List Nat):Nat->Nat
 |0=>0
 |i+1=>mC k ns i+18446744073709551616^(k*i)*ns.getD i 0
def Far(k:Nat)(ns:List Nat)(i E:Nat):Prop:=∀j,j<i->ns.getD j 0≠0->∀us,iS us->aB us=ns.getD j 0->k*j+us.length<=E
theorem VO(h:Far k ns i E)(hz:ns.getD i 0=0):Far k ns (i+1) E:=fun j hj hn us h1 h2=>by
 by_cases e:j=i
 ·subst e;exact absurd hz hn
 ·exact h j (by omega) hn us h1 h2
theorem VN{E':Nat}(h:Far k ns i E)(hl:∀us,iS us->aB us=ns.getD i 0->us.length=l)(h1:E<=E')(h2:k*i+l<=E'):Far k ns (i+1) E':=fun j hj hn us c1 c2=>by
 by_cases e:j=i
 ·subst e;have:=hl us c1 c2;omega
 ·have:=h j (by omega) hn us c1 c2;omega
theorem Px{k:Nat}{ns:List Nat}{i E:Nat}(hF:Far k ns i E)(hW:∀j,j<i->∃us,iS us/\aB us=ns.getD j 0):∀j,j<=i->mC k ns j<=j*(18446744073709551616^E-1)
 |0=>fun _=>by simp[mC]
 |j+1=>fun hj=>by
  have ih:=Px hF hW j (by omega);have ht:18446744073709551616^(k*j)*ns.getD j 0<=18446744073709551616^E-1:=by
   by_cases hn:ns.getD j 0=0
   ·rw[hn];simp
   ·obtain⟨us,h1,h2⟩:=hW j (by omega);have h3:=hF j (by omega) hn us h1 h2;have h4:=bF h1.1;rw[h2]at h4;have h5:18446744073709551616^(k*j)*(ns.getD j 0+1)<=18446744073709551616^(k*j)*18446744073709551616^us.length:=au _ h4;rw[<-aQ]at h5;have h6:18446744073709551616^(k*j+us.length)<=18446744073709551616^E:=aA (by omega) h3;have h7:=iZ (k*j);rw[aH,dG]at h5;omega
  rw[mC,aX,cX];omega
theorem RV(hF:Far k ns i E)(hW:∀j,j<i->∃us,iS us/\aB us=ns.getD j 0)(hi:i<=65536):∀j,j<=i->mC k ns j<18446744073709551616^(E+1):=fun j hj=>by have h1:=Px hF hW j hj;have h2:j*(18446744073709551616^E-1)<=65536*(18446744073709551616^E-1):=ax _ (by omega);have h3:=iZ E;rw[aE];omega
theorem WI(h:fI w v n):∃us,iS us/\aB us=n:=by obtain⟨ga,b,o,cap,xs,rfl,hr,hd,hv,hl⟩:=h;exact⟨yi xs,ku hd,by rw[jN];exact hv⟩
theorem Gn(w:World)(gp:Option Addr)(bp op cp np k:Nat)(vs:List Value)(ns:List Nat)(Mk:vs.length=np)(hnp:np<=65536)(hk:k<=16384)(hP:wO w gp bp op vs ns):Calls Tryz.prog 167 #[.int .i64 (k:Int),.slice gp np cp] w fun e w'=>∃E:Nat,e=.returned (.int .i64 (E:Int))/\E<=4294967296/\Far k ns np E/\w'=w:=by
 go_enter Tryz.func167,Tryz.ntmps167;go_wp2
 go_loop [5,10] (fun e i=>∃(q E:Nat),q<=np/\e=.int .i64 (E:Int)/\i=.int .i64 (q:Int)/\E<=4294967296/\Hid (Far k ns q E)) (fun _ i=>np-(intOf i).toNat)
 case atStart=>exact⟨0,0,aO _,rfl,rfl,by omega,fun j hj=>absurd hj (by omega)⟩
 case round=>
  obtain⟨q,E,hq,rfl,rfl,hE,hF⟩:=hrel;by_cases h1:q<np
  ·obtain rfl:=hP.head (by omega);have cv:=hP.cell q (by omega);have qF:=hP.each q (by omega);obtain⟨v,hv⟩:∃v,v=vs.getD q undef:=⟨_,rfl⟩;obtain⟨n,hn⟩:∃n,n=ns.getD q 0:=⟨_,rfl⟩;rw[<-hv]at cv qF;rw[<-hn]at qF;obtain⟨l,hl,uF,Ng,CL⟩:=WW qF;have CL:=ag CL;by_cases h0:n=0
   ·have CZ:=ag (pQ qF true (by simp[h0]));have H2:=ag (VO hF.out (by rw[<-hn];exact h0));clear hv hn qF uF Ng h0
    go_wp2_with fail
    refine(ae CZ).mono ?_;rintro e w' ⟨rfl,rfl⟩;clear CZ CL;go_wp2;exact⟨⟨q+1,E,by omega,rfl,by go_num,hE,H2⟩,by simp[intOf];omega⟩
   ·have CZ:=ag (pQ qF false (by simp[h0]));obtain⟨p,hp⟩:∃p,p=k*q:=⟨_,rfl⟩;have hpb:p<=1073741824:=by rw[hp];exact aP (m₂:=65536) hk (by omega)
    have hpi:(k:Int)*(q:Int)=(p:Int):=by rw[hp];exact(aG k q).symm
    have HP:=ag hp;have H2:=ag (VN (E':=max E (p+l)) hF.out (by rw[<-hn];exact uF) (by omega) (by omega));clear hv hn qF uF Ng h0 hp
    go_wp2_with fail
    refine(ae CZ).mono ?_;rintro e w' ⟨rfl,rfl⟩;clear CZ
    go_wp2_with fail
    refine(ae CL).mono ?_;rintro e w' ⟨rfl,rfl⟩;clear CL;go_wp2;exact⟨⟨q+1,max E (p+l),by omega,gi (Value.int .i64) (by omega),by go_num,by omega,H2⟩,by simp[intOf];omega⟩
  ·obtain rfl:q=np:=(by omega);go_wp2;go_ret;exact⟨E,rfl,hE,hF.out,rfl⟩
theorem YC(h:fI w v n):∃ga b o cap us,cH w ga b o cap us/\iS us/\aB us=n/\us.length<=1073741824/\∀W:World,(∀a:Addr,a.block<w.heap.size->W.cell? a=w.cell? a)->Calls Tryz.prog 76 #[v] W fun e w'=>e=.returned (.slice ga us.length cap)/\w'=W:=by obtain⟨ga,b,o,cap,xs,rfl,hr,hd,hv,hl⟩:=h;have hle:=fZ xs xs.length;exact⟨ga,b,o,cap,yi xs,hr.take _ hle,ku hd,by rw[jN];exact hv,by rw[ep];omega,fun W hW=>Dl W ga b o cap _ _ xs rfl (by omega) ⟨hr.head,hr.room,fun j hj=>by rw[hW _ (hr.lt (by omega))];exact hr.cell j hj⟩ (ep xs)⟩
theorem yU(w:World)(gp:Option Addr)(bp op cp np k:Nat)(z:Int)(vs:List Value)(ns:List Nat)(Mk:vs.length=np)(hnp:np<=65536)(hz:(k:Int)=min (max z 0) 16384)(hP:wO w gp bp op vs ns):Calls Tryz.prog 135 #[.int .i64 z,.slice gp np cp] w fun e w'=>∃r,e=.returned r/\aU w.heap.size w' r (mC k ns np)/\Below w.heap.size w w':=by
 have hk:k<=16384:=by omega
 have CW:=ag (fun w=>wu z 16384 k w hz);have CF:=ag (Gn w gp bp op cp np k vs ns Mk hnp hk hP);clear hz;go_enter Tryz.func135,Tryz.ntmps135
 go_wp2_with fail
 refine(ae CW _).mono ?_;rintro e w1 ⟨rfl,rfl⟩
 go_wp2_with fail
 refine(ae CF).mono ?_;rintro e w2 ⟨E,rfl,hE,hF,rfl⟩;clear CW CF;have jt:=RV hF (fun j hj=>WI (hP.each j (by omega))) hnp;obtain⟨N,hN⟩:∃N,N=E+1:=⟨_,rfl⟩;rw[<-hN]at jt;have HR:=ag jt;have HF:=ag hF;have qG:=iV N N ((E:Int)+1) (by omega) rfl (by omega);have sj:cW (w2.alloc (.cells (dS N).toArray 47)) w2.heap.size (List.replicate N 0):=aI w2 _;have Ab:Below w2.heap.size w2 (w2.alloc (.cells (dS N).toArray 47)):=(aj _ _).alloc (af _) _;have HK0:=ag sj;have yA:=ag Ab;have HN:=ag hN;have zE:N<=4294967297:=by omega
 clear jt hF sj Ab hN;go_wp2;clear qG
 go_loopw [17] (fun i wr=>∃(q:Nat) (zs:List Nat),q<=np/\i=.int .i64 (q:Int)/\zs.length=N/\bG zs/\cW wr w2.heap.size zs/\Hid (aB zs=mC k ns q)/\Below w2.heap.size w2 wr)
  (fun i _=>np-(intOf i).toNat)
 case atStart=>exact⟨0,List.replicate N 0,aO _,rfl,by simp,(qj N).1,ae HK0,(qj N).2,ae yA⟩
 case round=>
  obtain⟨q,zs,hq,rfl,kG,dz,ef,hV,en⟩:=hrel;clear HK0 yA;have kF:=en.size;by_cases h1:q<np
  ·obtain rfl:=hP.head (by omega);have cv:=(en.cell (by exact hP.lt (by omega))).trans (hP.cell q (by omega));have qF:=(hP.each q (by omega)).next en;obtain⟨v,hv⟩:∃v,v=vs.getD q undef:=⟨_,rfl⟩;obtain⟨n,hn⟩:∃n,n=ns.getD q 0:=⟨_,rfl⟩;rw[<-hv]at cv qF;rw[<-hn]at qF;have hj:mC k ns (q+1)=mC k ns q+18446744073709551616^(k*q)*n:=by rw[hn];rfl
   by_cases h0:n=0
   ·have CZ:=ag (pQ qF true (by simp[h0]));have H2:Hid (aB zs=mC k ns (q+1)):=by show _=_;rw[hj,h0,dO,dB];exact hV.out
    clear hv hn qF h0 hj
    go_wp2_with fail
    refine(ae CZ).mono ?_;rintro e w' ⟨rfl,rfl⟩;clear CZ;go_wp2;exact⟨⟨q+1,zs,by omega,by go_num,kG,dz,ef,H2,en⟩,by simp[intOf];omega⟩
   ·have CZ:=ag (pQ qF false (by simp[h0]));have acu:=hP.each q (by omega);rw[<-hv, <-hn]at acu;obtain⟨gb,bb,ob,cb,us,rB,cB,vB,lB,CT⟩:=YC acu;obtain⟨p,hp⟩:∃p,p=k*q:=⟨_,rfl⟩;have hpi:(k:Int)*(q:Int)=(p:Int):=by rw[hp];exact(aG k q).symm
    have acq:=ae HF q h1 (by rw[<-hn];exact h0) us cB (by rw[vB,hn]);rw[<-hp]at acq hj;obtain⟨lb,kl⟩:∃lb,lb=us.length:=⟨_,rfl⟩;rw[<-kl]at CT lB acq;have hpN:p+lb+1<=N:=by rw[ae HN];omega
    obtain⟨M,hM⟩:∃M,N=p+M:=⟨N-p,by omega⟩;have hrm:aB zs+18446744073709551616^p*aB us<18446744073709551616^(p+M):=by rw[<-hM,vB,hV.out, <-hj];exact ae HR (q+1) (by omega)
    have hne:0<us.length->bb≠w2.heap.size:=fun h=>by have:=rB.lt h;omega
    have CT:=ag (fun W (hW:Below w2.heap.size w2 W)=>CT W (fun a ha=>hW.cell ha));have CA:=ag (fun W (hB:cW W w2.heap.size zs) (hW:Below w2.heap.size w2 W)=>yK W w2.heap.size p M M bb ob cb lb gb zs us (by rw[kG,hM]) kl.symm (by omega) (by omega) hB dz (rB.next hW) cB.1 hne hrm);have H2:Hid (aB zs+18446744073709551616^p*aB us=mC k ns (q+1)):=by show _=_;rw[vB,hV.out,hj]
    generalize aB zs+18446744073709551616^p*aB us=S at *;have HM:=ag hM;have hpM:p<=N:=(by omega);have hMs:N-p=M:=(by omega);have hNp:¬N=p:=(by omega);have hwp:IntKind.i64.wrap (p:Int)=(p:Int):=by rw[ao];omega
    have af1:0<=(p:Int)/\(p:Int)<=(N:Int):=(by omega);have HLZ:=ag kG;clear hv hn qF acu h0 hj hp acq kl hrm hne rB cB vB hM kG
    go_wp2_with fail
    refine(ae CZ).mono ?_;rintro e w' ⟨rfl,rfl⟩;clear CZ;go_wp2
    go_region_with (first
     |(go_at_call 76;refine(ae CT _ ?_).mono ?_;exact en.drew;rintro e w' ⟨rfl,rfl⟩)
     |(go_at_call 86;refine(ae CA _ ?_ ?_).mono ?_;exact ef;exact en.drew;rintro e w4 ⟨rfl,sM,hl4,hd4,k4,Mj,g4⟩))
    all_goals
     go_wp2;exact⟨⟨q+1,sM,by omega,by go_num,by rw[hl4,ae HM],hd4,k4,by rw[Mj];exact H2,gS en.drew g4 (af _) kF⟩,by simp[intOf];omega⟩
  ·obtain rfl:q=np:=(by omega);have HV:=hV
   go_wp2_with fail
   refine(nA (B:=w2.heap.size) kG (by omega) (af _) ef dz).mono ?_;rintro e w5 ⟨r,rfl,hr,rfl⟩;rw[hV.out]at hr;go_wp2;go_ret;exact⟨r,rfl,hr,en⟩
theorem Ss{B:Nat}{ws:List Nat}(h:aU B w v n)(hc:iS ws)(hw:aB ws=n):∃ga b cap,v=.slice ga ws.length cap/\cH w ga b 0 cap ws:=by obtain⟨ga,b,cap,xs,rfl,hr,hx,hv,_⟩:=h.rep;obtain rfl:=uf hx hc (by rw[hv,hw]);exact⟨ga,b,cap,rfl,hr⟩
def gh(B M:Nat)(w:World)(v:Value)(n:Nat):Prop:=
 ∃xs,iS xs/\aB xs=n/\((v=.slice none 0 0/\xs=[])\/∃g ys,B<=g/\g<M/\v=.slice (some ⟨g,0,none⟩) xs.length (xs++ys).length/\cW w g (xs++ys)/\xs.length+ys.length<=1099511627776)
theorem aU.born{B:Nat}(h:aU B w v n):gh B w.heap.size w v n:=by
 obtain⟨xs,hc,hv,h|⟨g,ys,hg,rfl,hk,hl⟩⟩:=h
 ·exact⟨xs,hc,hv,Or.inl h⟩
 ·exact⟨xs,hc,hv,Or.inr ⟨g,ys,hg,hk.lt,rfl,hk,hl⟩⟩
theorem gh.rb{B:Nat}(h:gh B M w v n):aU B w v n:=by
 obtain⟨xs,hc,hv,h|⟨g,ys,hg,_,rfl,hk,hl⟩⟩:=h
 ·exact⟨xs,hc,hv,Or.inl h⟩
 ·exact⟨xs,hc,hv,Or.inr ⟨g,ys,hg,rfl,hk,hl⟩⟩
theorem gh.next{B:Nat}(h:gh B M w v n)(hb:Below w.heap.size w w'):gh B M w' v n:=by
 obtain⟨xs,hc,hv,h|⟨g,ys,hg,hm,rfl,hk,hl⟩⟩:=h
 ·exact⟨xs,hc,hv,Or.inl h⟩
 ·exact⟨xs,hc,hv,Or.inr ⟨g,ys,hg,hm,rfl,hk.next hb,hl⟩⟩
theorem Xv(B M:Nat)(w:World):gh B M w (.slice none 0 0) 0:=⟨[],ue,rfl,Or.inl ⟨rfl,rfl⟩⟩
structure RowsIn(w:World)(gp:Option Addr)(bp op:Nat)(vs:List Value):Prop where
 head:0<vs.length->gp=some ⟨bp,op,none⟩
 cell:∀j,j<vs.length->w.cell? ⟨bp,op+j,none⟩=some (vs.getD j undef)
 each:∀j,j<vs.length->∃ga b o cap xs,vs.getD j undef=.slice ga xs.length cap/\cH w ga b o cap xs/\bG xs
theorem Tryz.G4:(Tryz.prog.info? 38).map (fun i=>(i.zero,i.size,i.bytes))=some (some (.slice none 0 0),1,24):=by kernel_rfl
theorem rG{o:Option TypeInfo}{z:Option Value}(h:o.map (fun i=>(i.zero,i.size,i.bytes))=some (z,n,b)):∃i,o=some i/\i.zero=z/\i.size=n/\i.bytes=b:=by
 cases o with
 |none=>simp at h
 |some i=>simp at h;exact⟨i,rfl,h.1,h.2.1,h.2.2⟩
theorem uS{base:Nat}{us:List Value}(h:w.ownsRow base t 1 v n us):∃ga b cap,v=.slice ga n cap/\us.length=n/\(0<n->ga=some ⟨b,0,none⟩/\base<=b)/\∀j,j<n->w.cell? ⟨b,0+j,none⟩=some (us.getD j undef):=by
 have hl:us.length=n:=by simpa using h.1
 rcases h.2 with⟨rfl,rfl⟩|⟨g,cap,cur,rfl,hb,hg,hc,hm,hs,ht⟩
 ·exact⟨none,0,0,rfl,hl,fun h=>absurd h (by omega),fun j hj=>absurd hj (by omega)⟩
 ·have ho:w.ownsRow base t 1 (.slice (some ⟨g,0,none⟩) n cap) n us:=⟨h.1,Or.inr ⟨g,cap,cur,rfl,hb,hg,hc,hm,hs,ht⟩⟩;refine⟨_,g,cap,rfl,hl,fun _=>⟨rfl,hb⟩,fun j hj=>?_⟩;rw[bh,ho.cellAt j (by omega)];simp[List.getD_eq_getElem?_getD,show j<us.length from by omega]
theorem zC(us:List Value)(u:Value)(j:Nat):(us++[u]).getD j undef=if j<us.length then us.getD j undef else if j=us.length then u else undef:=by
 simp only[List.getD_eq_getElem?_getD,List.getElem?_append];split
 ·rfl
 ·rename_i h;by_cases e:j=us.length
  ·subst e;simp
  ·rw[aV e];have:j-us.length≠0:=(by omega);obtain⟨k,hk⟩:∃k,j-us.length=k+1:=⟨j-us.length-1,by omega⟩;rw[hk];simp
theorem JY(ns:List Nat)(n j:Nat):(ns++[n]).getD j 0=if j<ns.length then ns.getD j 0 else if j=ns.length then n else 0:=by
 rw[jh];split
 ·rfl
 ·by_cases e:j=ns.length
  ·subst e;simp
  ·rw[aV e];obtain⟨k,hk⟩:∃k,j-ns.length=k+1:=⟨j-ns.length-1,by omega⟩;rw[hk];simp
theorem oO(ns:List Nat)(i:Nat):mC 0 ns (i+1)=mC 0 ns i+ns.getD i 0:=by rw[mC,gX,cL,cX]
theorem aez(w:World)(gp:Option Addr)(bp op cp np:Nat)(vs:List Value)(ns:List Nat)(Mk:vs.length=np)(hnp:np<=65536)(hP:wO w gp bp op vs ns):Calls Tryz.prog 153 #[.slice gp np cp] w fun e w'=>∃r,e=.returned r/\aU w.heap.size w' r (mC 0 ns np)/\Below w.heap.size w w':=by
 have C:=ag (yU w gp bp op cp np 0 0 vs ns Mk hnp (by decide) hP);clear hP Mk;go_enter Tryz.func153,Tryz.ntmps153
 go_wp2_with fail
 refine(ae C).mono ?_;rintro e w1 ⟨r,rfl,hr,hb⟩;go_wp2;go_ret;exact⟨r,rfl,hr,hb⟩
theorem zO(w:World)(u v x:Value)(m n p t:Nat)(hu:fI w u m)(hv:fI w v n)(hx:fI w x p):wO (w.alloc (.cells #[u,v,x] t)) (some ⟨w.heap.size,0,none⟩) w.heap.size 0 [u,v,x] [m,n,p]:=by
 have hb:Below w.heap.size w (w.alloc (.cells #[u,v,x] t)):=(aj _ _).alloc (af _) _;refine⟨fun _=>rfl,rfl,fun j hj=>?_,fun j hj=>?_⟩
 ·have xz:j<3:=hj;rw[bh,ay _ w.heap.size j #[u,v,x] t (0,0) (aI w _)]
  match j,xz with
  |0,_=>rfl
  |1,_=>rfl
  |2,_=>rfl
 ·have xz:j<3:=hj
  match j,xz with
  |0,_=>exact hu.next hb
  |1,_=>exact hv.next hb
  |2,_=>exact hx.next hb
theorem FA(w:World)(u v x:Value)(m n p:Nat)(hu:fI w u m)(hv:fI w v n)(hx:fI w x p):Calls Tryz.prog 153 #[.slice (some ⟨w.heap.size,0,none⟩) 3 3] (w.alloc (.cells #[u,v,x] 38)) fun e w'=>∃r,e=.returned r/\aU w.heap.size w' r (m+n+p)/\Below w.heap.size w w':=by
 have hb:Below w.heap.size w (w.alloc (.cells #[u,v,x] 38)):=(aj _ _).alloc (af _) _;refine(aez _ _ _ _ 3 3 _ _ rfl (by omega) (zO w u v x m n p 38 hu hv hx)).mono ?_;rintro e w' ⟨r,rfl,hr,h⟩;have e3:mC 0 [m,n,p] 3=m+n+p:=by rw[oO,oO,oO];simp[mC]
 rw[e3]at hr;exact⟨r,rfl,hr.mono hb.size,aJ hb h⟩
def uq(n L:Nat):Prop:=(n=0/\L=0)\/(0<n/\1<=L/\2^(L-1)<=n/\n<2^L)
theorem Bz(h:uq n L)(k:uq n M):L=M:=by
 rcases h with⟨h1,h2⟩|⟨h1,h2,h3,h4⟩<;>rcases k with⟨k1,k2⟩|⟨k1,k2,k3,k4⟩<;>try omega
 have a:L-1<M:=(dZ (a:=2) (by omega)).1 (by omega);have b:M-1<L:=(dZ (a:=2) (by omega)).1 (by omega);omega
theorem Bf:∀f x,f<=64->x<2^f->uq x (Lib.bitLen x)
 |0,x,_,h=>by
  obtain rfl:x=0:=by simpa using h
  exact Or.inl ⟨rfl,by decide⟩
 |f+1,x,hf,h=>by
  by_cases h0:x=0
  ·subst h0;exact Or.inl ⟨rfl,by decide⟩
  ·have Af:x<2^64:=az h (aA (by omega) hf);have ih:=Bf f (x/2) (by omega) (by rw[aE]at h;omega);rw[Lib.bitLen_half x h0 Af];rcases ih with⟨i1,i2⟩|⟨i1,i2,i3,i4⟩
   ·rw[i2];exact Or.inr ⟨by omega,by omega,by simp;omega,by omega⟩
   ·generalize Lib.bitLen (x/2)=L at *;refine Or.inr ⟨by omega,by omega,?_,?_⟩
    ·obtain⟨l,rfl⟩:∃l,L=l+1:=⟨L-1,by omega⟩;rw[show 1+(l+1)-1=l+1 from by omega,aE];rw[dF]at i3;omega
    ·rw[fj,aE];omega
theorem J5{x:Nat}(BH:lo<18446744073709551616^k)(hx:0<x)(h:uq x L):uq (lo+18446744073709551616^k*x) (64*k+L):=by
 rcases h with⟨h1,_⟩|⟨_,h2,h3,h4⟩
 ·omega
 ·have e:18446744073709551616^k=2^(64*k):=by rw[dH]
  have hp:=iZ k;have hm:18446744073709551616^k*1<=18446744073709551616^k*x:=au _ hx;refine Or.inr ⟨by omega,by omega,?_,?_⟩
  ·rw[show 64*k+L-1=64*k+(L-1) from by omega,aQ, <-e];have:=au (18446744073709551616^k) h3;omega
  ·rw[aQ, <-e];have:=au (18446744073709551616^k) (show x+1<=2^L from h4);rw[aH,dG]at this;omega
theorem BU(h:fI w v n):∃L,L<=68719476736/\uq n L/\Calls Tryz.prog 53 #[v] w fun e w'=>e=.returned (.int .i64 (L:Int))/\w'=w:=by
 obtain⟨ga,b,o,cap,xs,rfl,hr,hd,hv,hl⟩:=h;obtain⟨la,fA⟩:∃la,la=xs.length:=⟨_,rfl⟩;have CL:=ag (pG w ga b o cap la xs fA.symm (by omega) hr);rw[<-fA]at hl ⊢;have IK:=uO xs la;have jL:=tR xs la;have hle:=fZ xs la;rw[fA,cf, <-fA,hv]at IK;obtain⟨l,acx⟩:∃l,l=fV xs la:=⟨_,rfl⟩;rw[<-acx]at CL IK jL hle;by_cases h0:l=0
 ·subst h0;refine⟨0,by omega,Or.inl ⟨by rw[<-IK];rfl,rfl⟩,?_⟩;clear jL IK hv hd fA acx;go_enter Tryz.func53,Tryz.ntmps53
  go_wp2_with fail
  refine(ae CL).mono ?_;rintro e w1 ⟨rfl,rfl⟩;clear CL;go_wp2;go_ret;exact⟨rfl,rfl⟩
 ·obtain⟨k,rfl⟩:∃k,l=k+1:=⟨l-1,by omega⟩;have jL:=jL (by omega);rw[dF]at jL;obtain⟨x,hx⟩:∃x,x=xs.getD k 0:=⟨_,rfl⟩;have Af:x<18446744073709551616:=by rw[hx];exact hd k
  rw[cQ, <-hx]at IK;rw[<-hx]at jL;have hB:=Bf 64 x (by omega) Af;have CB:=ag (fun w=>qJ (x:Int) w (by omega) (by omega));rw[dV]at CB;have hLb:Lib.bitLen x<=64:=by
   rcases hB with⟨_,h2⟩|⟨_,h2,h3,_⟩
   ·omega
   ·have:Lib.bitLen x-1<64:=(dZ (a:=2) (by omega)).1 (by omega);omega
  generalize Lib.bitLen x=L at *;have hH:=J5 (mU hd k) jL hB;rw[IK]at hH;refine⟨64*k+L,by omega,hH,?_⟩;obtain rfl:=hr.head (by omega);have cx:w.cell? ⟨b,o+k,none⟩=some (.int .u64 (x:Int)):=by rw[hx];exact hr.cell k (by omega)
  have RK:(((k+1:Nat):Int)==0)=false:=by rw[dn];omega
  have ek:((k+1:Nat):Int)-1=(k:Int):=by omega
  have eL:(64:Int)*(k:Int)+(L:Int)=((64*k+L:Nat):Int):=by omega
  have HEL:=ag eL;clear jL IK hv hd hx hB hH eL fA acx;go_enter Tryz.func53,Tryz.ntmps53
  go_wp2_with fail
  refine(ae CL).mono ?_;rintro e w1 ⟨rfl,rfl⟩;clear CL
  go_wp2_with fail
  refine(ae CB _).mono ?_;rintro e w2 ⟨rfl,rfl⟩;clear CB;go_wp2;go_ret;exact⟨bY (ae HEL),rfl⟩
end
section
def jB(t D b k X:Nat):Prop:=4*(X*D)<4*2^(k+b)+t*D/\4*2^(k+b)<4*(X*D)+t*D
theorem Sp{D:Nat}(hD:0<D):jB 7 D b k (2^(k+b)/D):=by have h1:=cR (2^(k+b)) D;have h2:=gR hD (a:=2^(k+b));unfold jB;generalize 2^(k+b)/D*D=Z at *;generalize 2^(k+b)=P at *;constructor<;>omega
theorem Fj{u D:Nat}(h:jB t D b k X)(hu:t<=u):jB u D b k X:=by have:=ax D hu;unfold jB at *;omega
theorem Hg{D:Nat}(hD:2^b<=D)(h:jB 8 D (b+1) k X):X<2*2^k+2:=by
 obtain⟨h1,_⟩:=h;rw[show 2^(k+(b+1))=2*2^k*2^b by rw[<-dt,aE,aQ];grind]at h1;refine iQ (a:=4*D) ?_;have:4*(2*2^k*2^b)<=4*(2*2^k*D):=au _ (au _ hD)
 grind
theorem Xq{D D' b':Nat}(hD:D=D'*2^c+r)(hr:r<2^c)(hb:b'=k+4)(h0:2^(k+3)<=D')(h:jB 7 D' b' k X):jB 8 D (b'+c) k X:=by
 have hX:=Hg (b:=k+3) h0 (Fj (u:=8) (by rw[hb]at h;exact h) (by omega));obtain⟨h1,h2⟩:=h;have hk:2^(k+3)=8*2^k:=by rw[aQ];omega
 have hp:2^(k+(b'+c))=2^(k+b')*2^c:=by rw[<-dt,aQ]
 unfold jB;rw[hp,hD];generalize 2^(k+b')=P at *;rw[hk]at h0;generalize 2^k=K at *;generalize 2^c=C at *;clear hp hk hD hb;have a1:4*X*r<=(8*K+4)*r:=ax r (by omega);have a2:8*K*r<=D'*C:=aP h0 (by omega);have a3:(4*(X*D'))*C<=(4*P+7*D')*C:=ax C (by omega);have a4:(4*P+1)*C<=(4*(X*D')+7*D')*C:=ax C (by omega);have h0C:0<C:=by omega
 constructor
 ·by_cases Ps:r=0
  ·subst Ps;have a5:(4*(X*D')+1)*C<=(4*P+7*D')*C:=ax C (by omega)
   grind
  ·grind
 ·grind
theorem aaN{D x:Nat}(hD:0<D)(hF:0<F)(SF:S*F=P)(KF:K*F=P*P)(c1:F*ch<=y*R)(c2:y*R<F*ch+F+y*G)(hR:R<2*D)(h1:128*D<=F)(h2:4*(y*G)<=F)(hP:P=y*D+R)(hx:x=y*S+ch):4*(x*D)<4*K+7*D/\4*K<4*(x*D)+7*D:=by
 have e1:F*(x*D)=y*D*P+F*ch*D:=by subst hx;grind
 have a1:F*ch*D<=y*R*D:=ax D c1;have a2:(y*R+1)*D<=(F*ch+F+y*G)*D:=ax D c2;have a3:4*(y*G)*D<=F*D:=ax D h2;have a4:128*D*D<=F*D:=ax D h1;have a5:R*R<=2*D*(2*D):=aP (by omega) (by omega);have a6:0<F*D:=qq hF hD;constructor
 ·refine gL (a:=F) ?_;subst hP
  grind
 ·refine gL (a:=F) ?_;subst hP
  grind
theorem Tv{D x:Nat}(hD:0<D)(hF:0<F)(SF:S*F=P)(KF:K*F=P*P)(c1:F*ch<=y*R)(c2:y*R<F*ch+F+y*G)(hR:R<2*D)(h1:128*D<=F)(h2:4*(y*G)<=F)(hP:P+R=y*D)(hx:x+ch=y*S):4*(x*D)<4*K+7*D/\4*K<4*(x*D)+7*D:=by
 have e1:F*(x*D)+F*ch*D=y*D*P:=by
  rw[<-SF,show F*(x*D)+F*ch*D=(x+ch)*(F*D) by grind,hx]
  grind
 have a1:F*ch*D<=y*R*D:=ax D c1;have a2:(y*R+1)*D<=(F*ch+F+y*G)*D:=ax D c2;have a3:4*(y*G)*D<=F*D:=ax D h2;have a4:128*D*D<=F*D:=ax D h1;have a5:R*R<=2*D*(2*D):=aP (by omega) (by omega);have a6:0<F*D:=qq hF hD;have e2:y*R*D=(P+R)*R:=by rw[hP];grind
 have e3:y*D*P=(P+R)*P:=by rw[hP]
 constructor
 ·refine gL (a:=F) ?_
  grind
 ·refine gL (a:=F) ?_
  grind
theorem Vq(hF:F=G*H)(hc:ch=y*(R/G)/H):F*ch<=y*R:=by
 have h1:=cR (y*(R/G)) H;have h2:=au y (cR R G);rw[<-hc]at h1;have h3:=ax G h1;generalize R/G=q at *;clear hc;subst hF
 grind
theorem ab3(hG:G=g+1)(hH:0<H)(hF:F=G*H)(hc:ch=y*(R/G)/H):y*R<F*ch+F+y*g:=by
 have h1:=gR hH (a:=y*(R/G));have h2:=gR (b:=G) (by omega) (a:=R);rw[<-hc]at h1;have h3:y*R<=y*(R/G*G+g):=au y (by omega);have h4:(y*(R/G)+1)*G<=(ch*H+H)*G:=ax G h1;generalize R/G=q at *;clear hc h2 h1 hH;subst hF hG
 grind
theorem Fk{D x:Nat}(b0:2^b<=D)(b1:D<2^(b+1))(hk:60<k)(hh:h=k/2+4)(GF:cut=h+(b+1)-k-4)(N:jB 8 D (b+1) h y)(hx:(2^(h+(b+1))=y*D+R/\x=y*2^(k-h)+y*(R/2^cut)/2^(2*h+(b+1)-k-cut))\/(2^(h+(b+1))+R=y*D/\x+y*(R/2^cut)/2^(2*h+(b+1)-k-cut)=y*2^(k-h))):jB 7 D (b+1) k x:=by
 have hy:=Hg b0 N;have hR:R<2*D:=by obtain⟨n1,n2⟩:=N;rcases hx with⟨e,_⟩|⟨e,_⟩<;>omega
 obtain⟨E,hE⟩:∃E,E=2*h+(b+1)-k:=⟨_,rfl⟩;obtain⟨e2,Wf⟩:∃e2,e2=2*h+(b+1)-k-cut:=⟨_,rfl⟩;rw[<-Wf]at hx;have hF:2^E=2^cut*2^e2:=by rw[<-aQ];congr 1;omega
 have SF:2^(k-h)*2^E=2^(h+(b+1)):=by rw[<-aQ];congr 1;omega
 have KF:2^(k+(b+1))*2^E=2^(h+(b+1))*2^(h+(b+1)):=by rw[<-aQ, <-aQ];congr 1;omega
 have h1:128*D<=2^E:=by have:2^(b+1+7)<=2^E:=aA (by omega) (by omega);rw[aQ]at this;omega
 have G0:0<2^cut:=bR (by omega);obtain⟨g,hg⟩:∃g,2^cut=g+1:=⟨2^cut-1,by omega⟩;have h2:4*(y*g)<=2^E:=by
  by_cases zG:h+(b+1)-k-4=0
  ·rw[GF,zG]at hg;have:g=0:=(by omega);rw[this];omega
  ·have e4:2^E=2^cut*(16*2^h):=by
    rw[hF,show e2=h+4 by omega,aQ]
    grind
   have h20:0<2^h:=bR (by omega);have:y*g<=(4*2^h)*2^cut:=aP (by omega) (by omega);rw[e4]
   grind
 have hH:0<2^e2:=bR (by omega);have hE0:0<2^E:=bR (by omega);have hD:0<D:=az (bR (by omega)) b0;have c1:=Vq (y:=y) (R:=R) hF rfl;have c2:=ab3 (y:=y) (R:=R) hg hH hF rfl;unfold jB;rcases hx with⟨e,ex⟩|⟨e,ex⟩
 ·exact aaN hD hE0 SF KF c1 c2 hR h1 h2 e ex
 ·exact Tv hD hE0 SF KF c1 c2 hR h1 h2 e ex
theorem aaM{D:Nat}(b1:D<2^(b+1))(hk:60<k)(hh:h=k/2+4)(GF:cut=h+(b+1)-k-4)(hR:R<2*D):y*(R/2^cut)/2^(2*h+(b+1)-k-cut)<=y*2^(k-h):=by
 obtain⟨E,hE⟩:∃E,E=2*h+(b+1)-k:=⟨_,rfl⟩;obtain⟨e2,Wf⟩:∃e2,e2=2*h+(b+1)-k-cut:=⟨_,rfl⟩;rw[<-Wf];have hF:2^E=2^cut*2^e2:=by rw[<-aQ];congr 1;omega
 have SF:2^(k-h)*2^E=2^(h+(b+1)):=by rw[<-aQ];congr 1;omega
 have c1:=Vq (y:=y) (R:=R) hF rfl;have hb:2*2^(b+1)<=2^(h+(b+1)):=by have:2^(1+(b+1))<=2^(h+(b+1)):=aA (by omega) (by omega);rw[aQ]at this;omega
 refine Nat.le_of_mul_le_mul_left ?_ (bC E);refine ak c1 ?_;rw[show 2^E*(y*2^(k-h))=y*(2^(k-h)*2^E) by grind,SF];exact au y (by omega)
theorem jV(h:n<2^b):wl n<=(b+63)/64:=by refine iY _ _ (az h ?_);rw[show(18446744073709551616:Nat)=2^64 by decide, <-dH];exact aA (by omega) (by omega)
theorem jM(h:wl n<=l):n<18446744073709551616^l:=by refine eI fun h2=>?_;have:=LS _ _ h2;omega
theorem fw(h:m<=n):wl m<=wl n:=iY _ _ (aN h (jM (af _)))
theorem qi(a c:Nat):wl (a*c)<=wl a+wl c:=by
 by_cases hc:c=0
 ·rw[hc,dO,pP];omega
 ·refine iY _ _ ?_;rw[aQ];exact eU (jM (af _)) (jM (af _))
theorem Hh{D:Nat}(hD:2^b<=D)(h:jB 8 D (b+1) k X):wl X<=(k+65)/64:=by have h1:=Hg hD h;have h2:0<2^k:=bC k;exact jV (b:=k+2) (by rw[aQ];omega)
theorem Vp{D:Nat}(h0:2^b<=D)(h1:D<2^(b+1))(hc:c=b+1-(k+4)):∃b',2^b'<=D/2^c/\D/2^c<2^(b'+1)/\b'+1<=k+4/\b'<=b/\∀X,jB 7 (D/2^c) (b'+1) k X->jB 8 D (b+1) k X:=by
 by_cases h:b+1<=k+4
 ·have:c=0:=by omega
  subst this;rw[cL,nT];exact⟨b,h0,h1,h,af _,fun X hX=>Fj hX (by omega)⟩
 ·have e0:2^b=2^(k+3)*2^c:=by rw[<-aQ];congr 1;omega
  have e1:2^(b+1)=2^(k+3+1)*2^c:=by rw[<-aQ];congr 1;omega
  have hp:=bC c;have h2:2^(k+3)<=D/2^c:=(dE hp).2 (by omega);have h3:D/2^c<2^(k+3+1):=(aR hp).2 (by omega);refine⟨k+3,h2,h3,by omega,by omega,fun X hX=>?_⟩;have:=Xq (D:=D) (c:=c) (r:=D%2^c) (by rw[aC];exact(aS _ _).symm) (aD _ hp) rfl h2 hX;rw[show k+4+c=b+1 by omega]at this;exact this
theorem aaz{D:Nat}(b1:D<2^(b+1))(hk:h<=k)(GF:cut=h+(b+1)-k-4)(hR:R<2*D):wl (R/2^cut)<=(k+5-h+63)/64:=by refine jV ((aR (bC cut)).2 ?_);rw[<-aQ];have:2^(b+1+1)<=2^(k+5-h+cut):=aA (by omega) (by omega);rw[aE]at this;omega
theorem Xr{D:Nat}(N:jB 8 D (b+1) h y)(hx:2^(h+(b+1))=y*D+R\/2^(h+(b+1))+R=y*D):R<2*D:=by obtain⟨n1,n2⟩:=N;rcases hx with e|e<;>omega
def Oj(k:Nat):Nat:=8*((k/2+69)/64*((k+67)/64)+(k/2+69)/64*((k+64-k/2)/64))
def ncF:Nat->Nat->Nat
 |0,_=>4
 |f+1,k=>if k<=60 then 4 else ncF f (k/2+4)+Oj k
theorem qL(f:Nat)(h:k<=60):ncF f k=4:=by cases f<;>simp[ncF,h]
theorem PF:∀(f g k:Nat),k<=f->k<=g->ncF f k=ncF g k
 |0,g,k,h1,_=>by rw[qL 0 (by omega),qL g (by omega)]
 |f+1,g,k,h1,h2=>by
  by_cases h0:k<=60
  ·rw[qL _ h0,qL _ h0]
  ·obtain⟨j,rfl⟩:∃j,g=j+1:=⟨g-1,by omega⟩;simp only[ncF,if_neg h0];rw[PF f j _ (by omega) (by omega)]
def nc(k:Nat):Nat:=ncF k k
theorem BZ(h:k<=60):nc k=4:=qL k h
theorem BV(h:¬k<=60):nc k=nc (k/2+4)+Oj k:=by obtain⟨j,rfl⟩:∃j,k=j+1:=⟨k-1,by omega⟩;unfold nc;rw[ncF,aV h,PF j _ _ (by omega) (af _)]
theorem Ok(h:k<=1048576):Oj k<=4294967296:=by have a1:(k/2+69)/64*((k+67)/64)<=8194*16386:=aP (by omega) (by omega);have a2:(k/2+69)/64*((k+64-k/2)/64)<=8194*16386:=aP (by omega) (by omega);unfold Oj;omega
theorem abp:∀k:Nat,k<=1048576->nc k<=4294967296*(k+1):=by
 intro k;induction k using Nat.strongRecOn with
 |_ k ih=>
  intro hk;by_cases h:k<=60
  ·rw[BZ h];omega
  ·rw[BV h];have:=ih (k/2+4) (by omega) (by omega);have:=Ok hk;omega
theorem mz(k:Nat):0<18446744073709551616^k:=bR (by omega)
theorem uU(h:wl A<wl C):wl (A/C)=0:=by
 have:A<C:=by refine eI fun hle=>?_;have:=fw hle;omega
 rw[bq this,pP]
theorem NV(hC:0<C)(hk:wl A=wl C+k)(h:A/18446744073709551616^k<C):wl (A/C)=k:=by
 have hp:=mz k;have h1:A/C<18446744073709551616^k:=by refine(aR hC).2 ?_;have:=(aR hp).1 h;rw[aC];exact this
 refine QC (iY _ _ h1) ?_;rcases k with _|k
 ·omega
 ·refine LS k _ ((dE hC).2 ?_);have hc:=jM (n:=C) (l:=wl C) (af _);refine cG fun hA=>?_;have h3:A<18446744073709551616^(k+wl C):=by rw[aQ];exact jY hA (sY hc (mz k))
  have:=iY _ _ h3;omega
theorem Hs(hC:0<C)(hk:wl A=wl C+k)(h:¬A/18446744073709551616^k<C):wl (A/C)=k+1:=by
 have hp:=mz k;have h1:k<wl (A/C):=by refine LS k _ ((dE hC).2 ?_);have:=(dE hp).1 (cG h);rw[aC];exact this
 have h2:wl (A/C)<=k+1:=by
  refine iY _ _ ((aR hC).2 ?_);have ha:=jM (n:=A) (l:=wl A) (af _);have c0:wl C≠0:=fun e=>by have:=jr.1 e;omega
  have hc:18446744073709551616^(wl C-1)<=C:=by refine cG fun dh=>?_;have:=iY _ _ dh;omega
  rw[show wl A=k+1+(wl C-1) by omega,aQ]at ha;exact az ha (au _ hc)
 omega
theorem PW(hC:0<C):wl (A/C)<=wl A-wl C+1:=by
 by_cases h:wl A<wl C
 ·rw[uU h];omega
 ·obtain⟨k,hk⟩:∃k,wl A=wl C+k:=⟨wl A-wl C,by omega⟩;by_cases h2:A/18446744073709551616^k<C
  ·rw[NV hC hk h2];omega
  ·rw[Hs hC hk h2];omega
theorem abv(hC:0<C):wl A<=wl (A/C)+wl C:=by
 by_cases h:wl A<wl C
 ·omega
 ·obtain⟨k,hk⟩:∃k,wl A=wl C+k:=⟨wl A-wl C,by omega⟩;by_cases h2:A/18446744073709551616^k<C
  ·rw[NV hC hk h2];omega
  ·rw[Hs hC hk h2];omega
theorem wg{Z:Nat}(hC:0<C)(hP:0<P):Z/C=((Z/P)%C*P+Z%P)/C+P*((Z/P)/C)/\Z%C=((Z/P)%C*P+Z%P)%C/\((Z/P)%C*P+Z%P)/C<P:=by
 obtain⟨Y,hY⟩:∃Y,Y=Z/P:=⟨_,rfl⟩;obtain⟨x,hx⟩:∃x,x=Z%P:=⟨_,rfl⟩;have jw:x<P:=by rw[hx];exact aD _ hP
 have e1:Z=P*Y+x:=by rw[hY,hx];exact(aS Z P).symm
 rw[<-hY, <-hx];obtain⟨a,ha⟩:∃a,a=Y/C:=⟨_,rfl⟩;obtain⟨r,hr⟩:∃r,r=Y%C:=⟨_,rfl⟩;have Mh:r<C:=by rw[hr];exact aD _ hC
 have e2:Y=C*a+r:=by rw[ha,hr];exact(aS Y C).symm
 rw[<-ha, <-hr];have e3:Z=C*(P*a)+(r*P+x):=by rw[e1,e2,aH,dW,aC P r,dt]
 refine⟨?_,?_,?_⟩
 ·rw[e3,gC hC,fj]
 ·rw[e3,kq]
 ·refine(aR hC).2 ?_;have h1:r*P+P<=C*P:=by have:=ax P (show r+1<=C from Mh);rw[dJ]at this;exact this
  rw[aC P C];omega
theorem VP{Lo:Nat}(hP:0<P)(h1:0<C1)(hC:C=C0+P*C1)(hLo:Lo<P):(Hi*P+Lo)+Hi/C1*C0=(Lo+P*(Hi%C1))+Hi/C1*C/\(Hi*P+Lo)/C<=Hi/C1:=by
 obtain⟨q,hq⟩:∃q,q=Hi/C1:=⟨_,rfl⟩;obtain⟨r,hr⟩:∃r,r=Hi%C1:=⟨_,rfl⟩;have e:Hi=C1*q+r:=by rw[hq,hr];exact(aS Hi C1).symm
 rw[<-hq, <-hr];constructor
 ·rw[e,hC];grind
 ·rw[hq];have a1:(Hi*P+Lo)/(P*C1)=Hi/C1:=by rw[<-cI,aC Hi P,gC hP,bq hLo,dB]
  rw[<-a1];exact aeG (by omega) (qq hP h1)
theorem l_(h:X+less=rest+q*C)(hq:X/C<=q)(hC:0<C)(dh:rest<less):0<q/\X+less=(rest+C)+(q-1)*C/\X/C<=q-1:=by
 have h1:X<q*C:=by omega
 have h2:X/C<q:=(aR hC).2 h1;generalize X/C=xc at *;obtain⟨p,rfl⟩:∃p,q=p+1:=⟨q-1,by omega⟩;refine⟨by omega,?_,by omega⟩;rw[dJ]at h;rw[dF];omega
theorem acd(h:X+less=rest+q*C)(hq:X/C<=q)(hC:0<C)(pE:less<=rest):q=X/C/\rest-less=X%C:=by
 have h1:q*C<=X:=by omega
 have h2:q<=X/C:=(dE hC).2 h1;have e:q=X/C:=by omega
 refine⟨e,?_⟩;have:=aS X C;rw[<-e,aC]at this;omega
theorem adL(h1:0<C1)(hC:C=C0+18446744073709551616^h*C1)(h0:C0<18446744073709551616^h)(dh:Hi<C):wl (Hi/C1)<=h+1:=by
 refine iY _ _ ((aR h1).2 ?_);have hp:=mz h;have h2:C<18446744073709551616^h*2*C1:=by have:=au (18446744073709551616^h) h1;rw[nK];omega
 refine az (jY dh h2) (ax C1 ?_);rw[aE];exact au _ (by omega)
theorem Hp{ps:List Nat}(hz:∀j,j<i+ps.length->zs.getD j 0=0)(hl:i+ps.length<=zs.length):aB (zs.take i++ps++zs.drop (i+ps.length))=aB zs+18446744073709551616^i*aB ps:=by
 have e1:=ja zs (i+ps.length);have e2:zs.take (i+ps.length)=List.replicate (i+ps.length) 0:=by
  refine lO (by simp;omega) fun j h1 h2=>?_;have hj:j<i+ps.length:=by simpa using h2
  have:=hz j hj;rw[aq,bj (by omega)]at this;simpa using this
 have e3:zs.take i=List.replicate i 0:=by have:=gi (List.take i) e2;rw[List.take_take,bu (by omega)]at this;rw[this,List.take_replicate,bu (by omega)]
 rw[e2,(qj _).2]at e1;rw[e1,jk,jk,e3,(qj _).2];simp only[List.length_append,List.length_replicate];omega
structure PQ(A C Q:Nat)(zs:List Nat)(i:Nat):Prop where
 len:zs.length=Q
 MK:bG zs
 low:∀j,j<i->zs.getD j 0=0
 val:aB zs=18446744073709551616^i*(A/18446744073709551616^i/C)
theorem PQ.start{top:Nat}(h:A/18446744073709551616^top<C):PQ A C Q (List.replicate Q 0) top:=
 ⟨by simp,(qj _).1,fun j _=>by rw[List.getD_eq_getElem?_getD,List.getElem?_replicate];split<;>rfl,by rw[(qj _).2,bq h,dO]⟩
theorem pz(A i k:Nat):A/18446744073709551616^i/18446744073709551616^k=A/18446744073709551616^(i+k):=by rw[cI, <-aQ]
theorem PQ.step{ps:List Nat}(h:PQ A C Q zs (i+k))(hC:0<C)(hd:bG ps)(hk:ps.length<=k)(hQ:i+ps.length<=Q)(hv:aB ps=(A/18446744073709551616^(i+k)%C*18446744073709551616^k+A/18446744073709551616^i%18446744073709551616^k)/C):PQ A C Q (zs.take i++ps++zs.drop (i+ps.length)) i:=by
 have hl:=h.len;obtain⟨p1, -, -⟩:=wg (Z:=A/18446744073709551616^i) hC (mz k);rw[pz, <-hv]at p1;refine⟨by simp;omega,nB (nB (gH h.MK _) hd) (fJ h.MK _),fun j hj=>?_,?_⟩
 ·have:=h.low j (by omega);rw[aq]at this ⊢;rw[fB,gK (by simp;omega),Zz hj];exact this
 ·rw[Hp (fun j hj=>h.low j (by omega)) (by omega),h.val,p1,aQ,aH,aF];omega
theorem SC(hC:0<C)(hQ:Q=wl (A/C))(hi:i<=Q):wl ((A/18446744073709551616^(i+k)%C*18446744073709551616^k+A/18446744073709551616^i%18446744073709551616^k)/C)<=k/\i+wl ((A/18446744073709551616^(i+k)%C*18446744073709551616^k+A/18446744073709551616^i%18446744073709551616^k)/C)<=Q:=by
 obtain⟨p1, -,p3⟩:=wg (Z:=A/18446744073709551616^i) hC (mz k);rw[pz]at p1 p3;refine⟨iY _ _ p3,?_⟩;have h1:A/18446744073709551616^i/C<18446744073709551616^(Q-i):=by rw[cI,aC, <-cI];refine(aR (mz i)).2 ?_;rw[<-aQ,show Q-i+i=Q by omega,hQ];exact jM (af _)
 have:=iY (Q-i) _ (aN (show _<=_ by rw[p1];exact Nat.le_add_right _ _) h1);omega
theorem PQ.fin(h:PQ A C Q zs 0)(hQ:Q=wl (A/C)):iS zs/\aB zs=A/C:=by have hv:=h.val;simp only[Nat.pow_zero,Nat.div_one,Nat.one_mul]at hv;refine⟨?_,hv⟩;have hn:=Hj h.MK;rw[hv, <-hQ,h.len]at hn;refine⟨h.MK,fun hp=>?_⟩;have:=tR zs Q (by rw[hn];rw[h.len]at hp;exact hp);rw[hn]at this;rw[h.len];exact this
def cd(k h:Nat):Nat:=(k+h-1)/h
theorem MB(hk:0<k):Q<=cd Q k*k/\cd Q k*k<Q+k:=by unfold cd;have h1:=cR (Q+k-1) k;have h2:=gR hk (a:=Q+k-1);omega
theorem Z1(hab:a<=b):cd a h<=cd b h:=AW (by omega)
def eF:Nat->Nat->Nat
 |0,_=>0
 |f+1,n=>max ((n/2+1+1)*(n-n/2+1)) (cd (n/2+1) ((n-n/2)/2)*eF f (n-n/2))+8*((n/2+1)*(n/2))
def hF(f n k:Nat):Nat:=max ((k+1)*(n+1)) (cd k (n/2)*eF f n)
theorem Pf(f n:Nat):eF (f+1) n=hF f (n-n/2) (n/2+1)+8*((n/2+1)*(n/2)):=rfl
theorem VF:∀f,eF f 0<=2/\eF f 1<=4/\eF f 2<=22/\eF f 3<=60/\eF f 4<=114/\eF f 5<=228/\eF f 6<=336/\eF f 7<=324/\eF f 8<=502/\eF f 9<=844/\eF f 10<=924/\eF f 11<=912/\eF f 12<=1344/\eF f 13<=1308/\eF f 14<=1420/\eF f 15<=1452/\eF f 16<=2082/\eF f 17<=3108:=by
 intro f;induction f with
 |zero=>simp[eF]
 |succ f ih=>
  obtain⟨i0,i1,i2,i3,i4,i5,i6,i7,i8,i9,i10,i11,i12,i13,i14,i15,i16,i17⟩:=ih;refine⟨?_,?_,?_,?_,?_,?_,?_,?_,?_,?_,?_,?_,?_,?_,?_,?_,?_,?_⟩<;>simp[eF,cd]<;>omega
theorem adK:∀n,1<=n->∀f,eF f n<=16*(n*n):=by
 intro n;induction n using Nat.strongRecOn with
 |_ n ih=>
  intro h1 f;by_cases hn:n<18
  ·obtain⟨i0,i1,i2,i3,i4,i5,i6,i7,i8,i9,i10,i11,i12,i13,i14,i15,i16,i17⟩:=VF f;rcases(show n=1\/n=2\/n=3\/n=4\/n=5\/n=6\/n=7\/n=8\/n=9\/n=10\/n=11\/n=12\/n=13\/n=14\/n=15\/n=16\/n=17 by omega)with rfl|rfl|rfl|rfl|rfl|rfl|rfl|rfl|rfl|rfl|rfl|rfl|rfl|rfl|rfl|rfl|rfl<;>omega
  ·cases f with
   |zero=>simp[eF]
   |succ f=>
    rw[Pf];obtain⟨h,hh⟩:∃h,h=n/2:=⟨_,rfl⟩;obtain⟨p,hp⟩:∃p,p=n-n/2:=⟨_,rfl⟩;have IH:=ih p (by omega) (by omega) f;rw[<-hp, <-hh];have hcd:cd (h+1) (p/2)<=3:=by unfold cd;refine Ja ((aR (by omega)).2 ?_);omega
    have h3:cd (h+1) (p/2)*eF f p<=3*(16*(p*p)):=aP hcd IH;unfold hF;have hph:p=h\/p=h+1:=(by omega);have xA:n=p+h:=(by omega);generalize cd (h+1) (p/2)*eF f p=X at *;clear IH hcd;have h6:6*h<=h*h:=ax h (by omega);have e1:(h+1)*h=h*h+h:=(by rw[dJ]);rcases hph with e|e
    ·subst e;have e2:(p+1+1)*(p+1)=p*p+3*p+2:=(by grind);have e3:n*n=4*(p*p):=by rw[xA];grind
     rw[e1,e2,e3];omega
    ·subst e;have e2:(h+1+1)*(h+1+1)=h*h+4*h+4:=(by grind);have e3:n*n=4*(h*h)+4*h+1:=by rw[xA];grind
     have e4:(h+1)*(h+1)=h*h+2*h+1:=(by grind);rw[e1,e2,e3];rw[e4]at h3;omega
theorem u_{f:Nat}(hL:4<=L)(hQ:4<=Q)(hS:L+Q<=S+1):hF f L Q<=64*(S*S)+64:=by
 obtain⟨h,hh⟩:∃h,h=L/2:=⟨_,rfl⟩;have hE:=adK L (by omega) f;have hc:=(MB (Q:=Q) (k:=h) (by omega)).2;unfold hF;rw[<-hh];obtain⟨P,hP⟩:∃P,P=cd Q h:=⟨_,rfl⟩;rw[<-hP]at hc ⊢;have h1:P*eF f L<=P*(16*(L*L)):=au P hE;have h2:L*L<=h*(4*h+5):=by
  have:L*L<=(2*h+1)*(2*h+1):=aP (by omega) (by omega);have e1:(2*h+1)*(2*h+1)=4*(h*h)+4*h+1:=by grind
  have e2:h*(4*h+5)=4*(h*h)+5*h:=by grind
  omega
 have h3:P*(16*(L*L))<=16*((P*h)*(4*h+5)):=by
  have:=au P (au 16 h2);refine ak this (gV ?_)
  grind
 obtain⟨u,hu⟩:∃u,u=Q+h-1:=⟨_,rfl⟩;have h4:16*((P*h)*(4*h+5))<=16*(u*(4*h+5)):=au 16 (ax _ (by omega));have e5:u*(4*h+5)=4*(u*h)+5*u:=by grind
 have h5:(u+h)*(u+h)<=S*S:=aP (by omega) (by omega);have e6:(u+h)*(u+h)=u*u+2*(u*h)+h*h:=by grind
 have h7:5*u<=u*u:=ax u (by omega);have h8:(Q+1)*(L+1)<=64*(S*S):=by
  have a1:(Q+1)*(L+1)<=(2*S)*(2*S):=aP (by omega) (by omega);have a2:(2*S)*(2*S)=4*(S*S):=by grind
  omega
 generalize P*eF f L=X at *;generalize P*(16*(L*L))=Y at *;generalize (P*h)*(4*h+5)=Z at *;omega
theorem R9(h:1<=c):(a-c+1)*(c+1)<=64*(a*a)+64\/a<c:=by
 by_cases dh:a<c
 ·exact Or.inr dh
 ·left;have a1:(a-c+1)*(c+1)<=(2*a)*(2*a):=aP (by omega) (by omega);have a2:(2*a)*(2*a)=4*(a*a):=by grind
  omega
theorem Xo:∀k:Nat,4096*nc k<=8*(k*k)+6400*k+16384:=by
 intro k;induction k using Nat.strongRecOn with
 |_ k ih=>
  by_cases h:k<=60
  ·rw[BZ h];omega
  ·rw[BV h];have IH:=ih (k/2+4) (by omega);obtain⟨y,hy⟩:∃y,y=k/2:=⟨_,rfl⟩;rw[<-hy]at IH ⊢;have hs:4096*Oj k<=8*((y+69)*(2*y+1+67)+(y+69)*(y+1+64)):=by unfold Oj;rw[<-hy];obtain⟨p,hp⟩:∃p,p=(y+69)/64:=⟨_,rfl⟩;obtain⟨q,hq⟩:∃q,q=(k+67)/64:=⟨_,rfl⟩;obtain⟨r,hr⟩:∃r,r=(k+64-y)/64:=⟨_,rfl⟩;rw[<-hp, <-hq, <-hr];have a1:(64*p)*(64*q)<=(y+69)*(2*y+1+67):=aP (by omega) (by omega);have a2:(64*p)*(64*r)<=(y+69)*(y+1+64):=aP (by omega) (by omega);have e1:(64*p)*(64*q)=4096*(p*q):=(by grind);have e2:(64*p)*(64*r)=4096*(p*r):=(by grind);omega
   have e1:(y+69)*(2*y+1+67)=2*(y*y)+206*y+4692:=(by grind);have e2:(y+69)*(y+1+64)=y*y+134*y+4485:=(by grind);have e3:(y+4)*(y+4)=y*y+8*y+16:=(by grind);have e4:(2*y)*(2*y)<=k*k:=aP (by omega) (by omega);have e5:(2*y)*(2*y)=4*(y*y):=(by grind);rw[e1,e2]at hs;rw[e3]at IH;omega
end
section
open Go.RowKit
theorem Xy(w:World)(u:Value)(m:Nat)(hu:fI w u m):Calls Tryz.prog 93 #[u] w fun e w'=>∃us,iS us/\aB us=m/\us.length<=1073741824/\e=.returned (.slice (some ⟨w.heap.size,0,none⟩) us.length us.length)/\cW w' w.heap.size us/\Below w.heap.size w w':=by
 obtain⟨ga,ba,oa,ca,us,rA,cA,vA,lA,CA⟩:=lM hu;have CA:=ag CA;obtain⟨la,fA⟩:∃la,la=us.length:=⟨_,rfl⟩;rw[<-fA]at CA lA;have uY:=ag fA;clear hu fA;go_enter Tryz.func93,Tryz.ntmps93
 go_wp2_with fail
 refine(ae CA).mono ?_;rintro e w1 ⟨rfl,rfl⟩;clear CA
 go_wp2_with fail
 refine(rk _ ga ba oa ca la us (ae uY).symm (by omega) rA).mono ?_;rintro e w3 ⟨rfl,k3,b3⟩;go_wp2;go_ret;exact⟨us,cA,vA,by rw[<-ae uY];exact lA,by rw[<-ae uY];exact fg rfl,k3,b3⟩
def yJ(us zs:List Nat)(y k r:Nat):Prop:=zs.length=us.length/\bG zs/\r<y/\(∀j,j<k->zs.getD j 0=us.getD j 0)/\aB (us.drop k)=aB (zs.drop k)*y+r
theorem drop_cons(xs:List Nat)(j:Nat)(h:j<xs.length):xs.drop j=xs.getD j 0 :: xs.drop (j+1):=by rw[cK h,iK h]
theorem Dq(h:bG us)(hy:0<y):yJ us us y us.length 0:=⟨rfl,h,hy,fun _ _=>rfl,by simp[aB]⟩
theorem FM{j:Nat}(h:yJ us zs y (j+1) r)(hj:j<us.length)(hy:y<18446744073709551616)(hc:c=zs.getD j 0)(hQ:Q=(18446744073709551616*r+c)/y)(hR:R=(18446744073709551616*r+c)%y):yJ us (zs.set j Q) y j R/\Q<18446744073709551616:=by
 obtain⟨h1,h2,h3,h4,h5⟩:=h;have Na:c<18446744073709551616:=by rw[hc];exact h2 j
 have adV:Q<18446744073709551616:=by rw[hQ,aR (by omega)];have:18446744073709551616*(r+1)<=18446744073709551616*y:=au _ h3;omega
 refine⟨⟨by simpa using h1,iX h2 (by omega) adV,by rw[hR];exact aD _ (by omega),fun i hi=>?_,?_⟩,adV⟩
 ·rw[oM _ _ _ _ (by omega),aV (by omega)];exact h4 i (by omega)
 ·have e1:(zs.set j Q).drop j=Q :: zs.drop (j+1):=by
   rw[drop_cons _ j (by simpa using (by omega:j<zs.length)),oM _ _ _ _ (by omega),aW rfl];congr 1;rw[List.drop_set,aW (by omega)]
  have e2:us.drop j=c :: us.drop (j+1):=by rw[drop_cons us j hj,hc,h4 j (by omega)]
  have e3:Q*y+R=18446744073709551616*r+c:=by rw[hQ,hR];exact pW _ _
  rw[e1,e2];simp only[aB];rw[h5,aX,aF];generalize aB (zs.drop (j+1))*y=T at *;generalize Q*y=U at *;omega
theorem LR(h:yJ us zs y 0 r):aB zs=aB us/y/\r=aB us%y:=by
 obtain⟨_,_,h3,_,h5⟩:=h;rw[dN,dN]at h5;rw[h5,aC];constructor
 ·rw[gC (by omega),bq h3,dB]
 ·rw[kq,bc h3]
theorem EJ(w:World)(u:Value)(m y:Nat)(Ag:0<y)(hy:y<18446744073709551616)(hu:fI w u m):Calls Tryz.prog 95 #[u,.int .u64 (y:Int)] w fun e w'=>∃q,e=.returned (.tuple #[q,.int .u64 ((m%y:Nat):Int),.int .i64 0])/\aU w.heap.size w' q (m/y)/\Below w.heap.size w w':=by
 obtain⟨R,hR⟩:∃R,R=m%y:=⟨_,rfl⟩;obtain⟨Q,hQ⟩:∃Q,Q=m/y:=⟨_,rfl⟩;rw[<-hR, <-hQ];have HR:=ag hR;have HQ:=ag hQ;have hyz:((y:Int)==0)=false:=by rw[dn];omega
 clear hR hQ;go_enter Tryz.func95,Tryz.ntmps95
 go_wp2_with fail
 refine(Xy _ _ m hu).mono ?_;rintro e w1 ⟨us,cU,vU,lU,rfl,k1,b1⟩;obtain⟨la,fA⟩:∃la,la=us.length:=⟨_,rfl⟩;rw[<-fA]at lU ⊢;have uY:=ag fA;have HVU:=ag vU;clear fA hu vU;go_wp2
 go_loopw [8,9] (fun rv i wr=>∃(k r:Nat) (zs:List Nat),k<=la/\rv=.int .u64 (r:Int)/\i=.int .i64 ((k:Int)-1)/\zs.length=la/\r<y/\cW wr w.heap.size zs/\Hid (yJ us zs y k r)/\Below w.heap.size w wr)
  (fun _ i _=>(intOf i+1).toNat)
 case atStart=>exact⟨la,0,us,af _,rfl,rfl,(ae uY).symm,Ag,k1,by rw[ae uY];exact Dq cU.1 Ag,b1⟩
 case round=>
  obtain⟨k,r,zs,hk,rfl,rfl,kG,hr,ef,fN,en⟩:=hrel;by_cases h0:k=0
  ·subst h0;obtain⟨e1,e2⟩:=LR fN.out;rw[ae HVU]at e1 e2;have hq:aB zs=Q:=by rw[ae HQ];exact e1
   have Uo:(r:Int)=(R:Int):=(by rw[ae HR,e2]);have hd:=fN.out.2.1;have HQ2:=ag hq;have HR2:=ag Uo;clear e1 e2 hq Uo fN
   go_wp2_with fail
   refine(nA (B:=w.heap.size) kG (by omega) (af _) ef hd).mono ?_;rintro e w6 ⟨q,rfl,hq,rfl⟩;rw[ae HQ2]at hq;go_wp2
   go_ret3
   exact⟨q,by rw[<-ae HR2];rfl,hq,en⟩
  ·obtain⟨j,rfl⟩:∃j,k=j+1:=⟨k-1,by omega⟩;have ej:((j+1:Nat):Int)-1=(j:Int):=(by omega);rw[ej];obtain⟨c,hc⟩:∃c:Nat,c=zs.getD j 0:=⟨_,rfl⟩;have cr:wr.cell? ⟨w.heap.size,j,none⟩=some (.int .u64 (c:Int)):=by rw[hc];exact ef.cell j (by omega)
   have Na:c<18446744073709551616:=by rw[hc];exact fN.out.2.1 j
   obtain⟨Qd,hQd⟩:∃Qd,Qd=(18446744073709551616*r+c)/y:=⟨_,rfl⟩;obtain⟨Rd,Zd⟩:∃Rd,Rd=(18446744073709551616*r+c)%y:=⟨_,rfl⟩;obtain⟨H2,Wq⟩:=FM fN.out (by rw[<-ae uY];omega) hy hc hQd Zd;have Gy:=H2.2.2.1;have H2:=ag H2;have CD:=ag (fun w=>x9 r c y Qd Rd w hr Na hy hQd Zd);clear hc hQd Zd fN
   go_wp2_with fail
   refine(ae CD _).mono ?_;rintro e w5 ⟨rfl,b5⟩;have cr:=ef.next b5;have cr2:=cr.cell j (by omega);have fr:=cr.frozen j;have en:=en.trans (b5.mono en.size);clear b5;go_wp2;exact⟨⟨j,Rd,zs.set j Qd,by omega,rfl,by go_num,by simpa using kG,Gy,cr.set j Qd,H2,en.setCell (af _) _⟩,by simp[intOf]⟩
theorem Ff{x:Nat}(hx:x<18446744073709551616)(hy:y<18446744073709551616)(hc:c<18446744073709551616):x*y+c<=18446744073709551616*18446744073709551615:=by have:x*y<=18446744073709551615*18446744073709551615:=aP (by omega) (by omega);omega
theorem BR(x y c P hi lo:Nat)(w:World)(hx:x<18446744073709551616)(hy:y<18446744073709551616)(hc:c<18446744073709551616)(hP:P=x*y+c)(hh:hi=P/18446744073709551616)(hl:lo=P%18446744073709551616):Calls Tryz.prog 226 #[.int .u64 (x:Int),.int .u64 (y:Int),.int .u64 (c:Int)] w fun e w'=>e=.returned (.tuple #[.int .u64 (hi:Int),.int .u64 (lo:Int)])/\w'=w:=by
 have hb:=Ff hx hy hc;have CM:=ag (fun w=>nC x y w hx hy);have Un:x*y/18446744073709551616*18446744073709551616+x*y%18446744073709551616=x*y:=pW _ _;have hp3:x*y%18446744073709551616<18446744073709551616:=aD _ (by omega);generalize x*y/18446744073709551616=h0 at *;generalize x*y%18446744073709551616=l0 at *;have CA:=ag (fun w=>lN l0 c 0 0 w (Or.inl ⟨rfl,rfl⟩));have e1:((l0+c+0)%18446744073709551616)=lo:=by omega
 have e2:h0+(l0+c+0)/18446744073709551616=hi:=by omega
 rw[e1]at CA;have dh:hi<18446744073709551616:=by omega
 generalize (l0+c+0)/18446744073709551616=o at *;have e3:(h0:Int)+(o:Int)=(hi:Int):=by omega
 clear hb hP hh hl Un e1 e2 hx hy hc hp3;go_enter Tryz.func226,Tryz.ntmps226
 go_wp2_with fail
 refine(ae CM _).mono ?_;rintro e w1 ⟨rfl,rfl⟩
 go_wp2_with fail
 refine(ae CA _).mono ?_;rintro e w2 ⟨rfl,rfl⟩;go_wp2
 go_ret2
 exact⟨iw rfl rfl,rfl⟩
def F8(z0 zs bs:List Nat)(y k c:Nat):Prop:=zs.length=z0.length/\bG zs/\c<18446744073709551616/\aB zs+18446744073709551616^k*c=aB z0+y*aB (bs.take k)
theorem ND(h:bG z0)(bs:List Nat)(y:Nat):F8 z0 z0 bs y 0 0:=⟨rfl,h,by omega,by simp[aB]⟩
theorem Sa{bs:List Nat}(h:F8 z0 zs bs y k c)(hk:k<zs.length)(hr:r=zs.getD k 0)(hb:b=bs.getD k 0)(qe:b<18446744073709551616)(hy:y<18446744073709551616)(hP:P=b*y+c)(hh:hi=P/18446744073709551616)(hl:lo=P%18446744073709551616):F8 z0 (zs.set k ((r+lo+0)%18446744073709551616)) bs y (k+1) ((r+lo+0)/18446744073709551616+hi):=by
 obtain⟨h1,h2,h3,h4⟩:=h;have Nk:r<18446744073709551616:=by rw[hr];exact h2 _
 have Pm:=Ff qe hy h3;rw[<-hP]at Pm;refine⟨by simpa using h1,iX h2 hk (aD _ (by omega)),by omega,?_⟩;have hs:=ju zs k ((r+lo+0)%18446744073709551616) hk;rw[<-hr]at hs;have hPe:18446744073709551616*hi+lo=P:=by rw[hh,hl];exact aS _ _
 rw[cQ, <-hb,aH y,aE,aF,dW y];have e:18446744073709551616^k*((r+lo+0)%18446744073709551616)+18446744073709551616^k*(18446744073709551616*((r+lo+0)/18446744073709551616+hi))=18446744073709551616^k*r+(18446744073709551616^k*(y*b)+18446744073709551616^k*c):=by rw[<-aH, <-aH, <-aH];congr 1;rw[aC y b];omega
 omega
theorem Xm{N:Nat}(h1:bG us)(h2:bG vs)(hy:y<18446744073709551616)(hN:N=max us.length vs.length+1):aB us+y*aB vs<18446744073709551616^N:=by have a:=oX (bF h1) (q:=N-1) (by omega);have b:=oX (bF h2) (q:=N-1) (by omega);have c:y*aB vs<=18446744073709551615*(18446744073709551616^(N-1)-1):=aP (by omega) (by omega);rw[show N=N-1+1 from by omega,aE];omega
theorem Jp(w:World)(u v:Value)(m n y:Nat)(hy:y<18446744073709551616)(hu:fI w u m)(hv:fI w v n):Calls Tryz.prog 209 #[u,v,.int .u64 (y:Int)] w fun e w'=>∃r,e=.returned r/\aU w.heap.size w' r (m+n*y)/\Below w.heap.size w w':=by
 obtain⟨ga,ba,oa,ca,us,rA,cA,vA,lA,CA⟩:=lM hu;obtain⟨gb,bb,ob,cb,vs,rB,cB,vB,lB,CB⟩:=lM hv;obtain⟨N,hN⟩:∃N,N=max us.length vs.length+1:=⟨_,rfl⟩;have jt:=Xm cA.1 cB.1 hy hN;have hbN:vs.length+1<=N:=by omega
 have zE:N<=1073741825:=by omega
 have CA:=ag CA;have CB:=ag CB;have HN:=ag hN;have kG:(us++List.replicate (N-us.length) 0).length=N:=by simp;omega
 have jx:aB (us++List.replicate (N-us.length) 0)=m:=by rw[qU,vA]
 have dz0:=ug cA.1 (N-us.length);obtain⟨la,fA⟩:∃la,la=us.length:=⟨_,rfl⟩;obtain⟨lb,kl⟩:∃lb,lb=vs.length:=⟨_,rfl⟩;rw[<-fA]at CA lA HN kG jx dz0;rw[<-kl]at CB lB HN hbN;have uY:=ag fA;have I4:=ag kl;have HR:Hid (m+y*n<18446744073709551616^N):=by show _<_;rw[<-vA, <-vB];exact jt
 have HVB:=ag vB;have BC:0<vs.length->bb<w.heap.size:=fun h=>rB.lt h;have HBB:=ag BC;clear hu hv hN jt fA kl vA vB BC;go_enter Tryz.func209,Tryz.ntmps209
 go_wp2_with fail
 refine(ae CA).mono ?_;rintro e w1 ⟨rfl,rfl⟩
 go_wp2_with fail
 refine(ae CB).mono ?_;rintro e w2 ⟨rfl,rfl⟩;clear CA CB
 go_wp2_with fail
 refine(FN _ ga gb ba oa ca cb la lb N us (ae uY).symm (by omega) (by omega) rA (ae HN)).mono ?_;rintro e w3 ⟨rfl,k3,b3⟩;generalize us++List.replicate (N-la) 0=z0 at *;have rB:=rB.next b3;have Dz:=ag jx;have HZL:=ag kG;clear jx kG;go_wp2
 go_loopw [8,22] (fun c i wr=>∃(k cy:Nat) (zs:List Nat),k<=lb/\c=.int .u64 (cy:Int)/\i=.int .i64 (k:Int)/\cy<18446744073709551616/\cW wr w2.heap.size zs/\Hid (F8 z0 zs vs y k cy)/\cH wr gb bb ob cb vs/\Below w2.heap.size w2 wr)
  (fun _ i _=>lb-(intOf i).toNat)
 case atStart=>exact⟨0,0,z0,aO _,rfl,rfl,by omega,k3,ND dz0 vs y,rB,b3⟩
 case round=>
  obtain⟨k,cy,zs,hk,rfl,rfl,zH,ef,fN,xx,en⟩:=hrel;have kG:zs.length=N:=by rw[fN.out.1];exact ae HZL
  by_cases h1:k<lb
  ·obtain rfl:=xx.head (by rw[<-ae I4];omega);obtain⟨b,hb⟩:∃b:Nat,b=vs.getD k 0:=⟨_,rfl⟩;have qe:b<18446744073709551616:=by rw[hb];exact cB.1 k
   have cbk:wr.cell? ⟨bb,ob+k,none⟩=some (.int .u64 (b:Int)):=by rw[hb];exact xx.cell k (by rw[<-ae I4];omega)
   obtain⟨r,hr⟩:∃r:Nat,r=zs.getD k 0:=⟨_,rfl⟩;have cr:wr.cell? ⟨w2.heap.size,k,none⟩=some (.int .u64 (r:Int)):=by rw[hr];exact ef.cell k (by omega)
   have fr:=ef.frozen k;obtain⟨P,hP⟩:∃P,P=b*y+cy:=⟨_,rfl⟩;obtain⟨hi,hh⟩:∃hi,hi=P/18446744073709551616:=⟨_,rfl⟩;obtain⟨lo,hl⟩:∃lo,lo=P%18446744073709551616:=⟨_,rfl⟩;have CT:=ag (fun w=>BR b y cy P hi lo w qe hy zH hP hh hl);have H2:=ag (Sa fN.out (by omega) hr hb qe hy hP hh hl);have CA:=ag (fun w=>lN r lo 0 0 w (Or.inl ⟨rfl,rfl⟩));have rC:=(ae H2).2.2.1;generalize (r+lo+0)%18446744073709551616=d at *;generalize (r+lo+0)/18446744073709551616=c1 at *;obtain⟨c2,adY⟩:∃c2,c2=c1+hi:=⟨_,rfl⟩;rw[<-adY]at H2 rC;have ec:(c1:Int)+(hi:Int)=(c2:Int):=(by omega);have hne:0<vs.length->bb≠w2.heap.size:=fun h=>by have:=ae HBB h;omega
   have UD:=ag hne;clear hr hb hP hh hl adY hne
   go_wp2_with fail
   refine(ae CT _).mono ?_;rintro e w4 ⟨rfl,rfl⟩
   go_wp2_with fail
   refine(ae CA _).mono ?_;rintro e w5 ⟨rfl,rfl⟩;go_wp2;exact⟨⟨k+1,c2,_,by omega,by first|rfl|exact gi (Value.int .u64) ec,by go_num,rC,ef.set k d,H2,xx.but (aY _ _ _ _) (ae UD),en.setCell (af _) _⟩,by simp[intOf];omega⟩
  ·obtain rfl:k=lb:=(by omega);obtain⟨M,hM⟩:∃M,N=k+M:=⟨N-k,by omega⟩;have hM1:1<=M:=(by omega);have hMs:N-k=M:=(by omega);have hNk:¬N=k:=(by omega);have afc:0<=(k:Int)/\(k:Int)<=(N:Int):=(by omega);have acE:aB zs+18446744073709551616^k*cy=m+y*n:=by have:=fN.out.2.2.2;rw[eZ _ _ (by rw[<-ae I4];omega),ae Dz,ae HVB]at this;exact this
   have dz:=fN.out.2.1;have hko:cW (wr.alloc (.cells #[.int .u64 (cy:Int)] 47)) wr.heap.size [cy]:=aI wr _;have hro:=hko.rep 0 1 1 (by simp) (by omega);have hbA:Below wr.heap.size wr (wr.alloc (.cells #[.int .u64 (cy:Int)] 47)):=(aj _ _).alloc (af _) _;have nV:=ef.lt;have CAT:=ag (yK _ w2.heap.size k M M wr.heap.size 0 1 1 (some ⟨wr.heap.size,0,none⟩) zs [cy] (by rw[kG,hM]) rfl hM1 (by omega) (ef.next hbA) dz hro (LK zH) (fun _=>by omega) (by rw[Dx,acE, <-hM];exact ae HR));rw[Dx,acE, <-hM]at CAT;have Ze:=en.trans (hbA.mono en.size);have HB5:=ag Ze;clear hko hro hbA acE dz hM Ze fN
   go_wp2_with fail
   refine(ae CAT).mono ?_;rintro e w5 ⟨rfl,sM,hl5,hd5,k5,hv5,g5⟩;have b5:=gS (ae HB5) g5 (af _) (ae HB5).size;clear CAT HB5 g5
   go_wp2_with fail
   refine(nA (B:=w2.heap.size) hl5 (by omega) (af _) k5 hd5).mono ?_;rintro e w6 ⟨r,rfl,hr,rfl⟩;rw[hv5,aC y n]at hr;go_wp2;go_ret;exact⟨r,rfl,hr,b5⟩
theorem ac7{a b c d:Int}(h:a=b)(h':c=d):Ending.returned (.tuple #[.int .i64 a,.int .i64 c])=.returned (.tuple #[.int .i64 b,.int .i64 d]):=by rw[h,h']
theorem YU(z:Int)(k s t:Nat)(w:World)(hk:(k:Int)=min (max z 0) 1048576)(hs:s=k/64)(ht:t=k%64):Calls Tryz.prog 128 #[.int .i64 z] w fun e w'=>e=.returned (.tuple #[.int .i64 (s:Int),.int .i64 (t:Int)])/\w'=w:=by
 have CW:=ag (fun w=>wu z 1048576 k w hk);have es:(k:Int)/64=(s:Int):=by omega
 have et:(k:Int)%64=(t:Int):=by omega
 have hkb:k<=1048576:=by omega
 have ES:=ag es;have ET:=ag et;clear hk hs ht;go_enter Tryz.func128,Tryz.ntmps128
 go_wp2_with fail
 refine(ae CW _).mono ?_;rintro e w1 ⟨rfl,rfl⟩;go_wp2
 go_ret2
 exact⟨ac7 (by first|rfl|exact ae ES) (by first|rfl|exact ae ET),rfl⟩
theorem Qn{x:Nat}(hx:x<18446744073709551616)(ht:t<64)(hc:c<2^t):((x*2^t)%18446744073709551616)||| c=(x*2^t)%18446744073709551616+c/\(x*2^t)%18446744073709551616+c<18446744073709551616/\x/2^(64-t)<2^t/\(x*2^t)%18446744073709551616+18446744073709551616*(x/2^(64-t))=x*2^t:=by
 have hp:=uT t (by omega);have vo:0<2^t:=bR (by omega);have Wp:0<2^(64-t):=bR (by omega);have e1:x*2^t%18446744073709551616=x%2^(64-t)*2^t:=by rw[<-hp,je]
 have e2:x/2^(64-t)<2^t:=by rw[aR Wp,aC,hp];exact hx
 have hm:=aD x Wp;have hd:=aS x (2^(64-t));refine⟨?_,?_,e2,?_⟩
 ·rw[e1];exact Hl _ _ _ hc
 ·rw[e1];have h2:(x%2^(64-t)+1)*2^t<=2^(64-t)*2^t:=ax _ hm;rw[aX,cX,hp]at h2;omega
 ·rw[e1, <-hp];have:x*2^t=(2^(64-t)*(x/2^(64-t))+x%2^(64-t))*2^t:=by rw[hd]
  rw[this,aX,nK];omega
def Bb(us zs:List Nat)(N s t k c:Nat):Prop:=zs.length=N/\bG zs/\c<2^t/\(∀j,s+k<=j->zs.getD j 0=0)/\aB zs+18446744073709551616^(s+k)*c=18446744073709551616^s*(2^t*aB (us.take k))
theorem OD(us:List Nat)(N s t:Nat):Bb us (List.replicate N 0) N s t 0 0:=by refine⟨by simp,(qj N).1,bR (by omega),fun j _=>?_,by rw[(qj N).2];simp[aB]⟩;simp only[List.getD_eq_getElem?_getD,List.getElem?_replicate];split<;>rfl
theorem TT{N x:Nat}(h:Bb us zs N s t k c)(hk:s+k<N)(hx:x=us.getD k 0)(Af:x<18446744073709551616)(ht:t<64)(hd:d=(x*2^t)%18446744073709551616+c)(rC:c2=x/2^(64-t)):Bb us (zs.set (s+k) d) N s t (k+1) c2:=by
 obtain⟨h1,h2,h3,h4,h5⟩:=h;obtain⟨e1,e2,e3,e4⟩:=Qn Af ht h3;refine⟨by simpa using h1,iX h2 (by omega) (by rw[hd];exact e2),by rw[rC];exact e3,fun j hj=>?_,?_⟩
 ·rw[oM _ _ _ _ (by omega),aV (by omega)];exact h4 j (by omega)
 ·have hs:=ju zs (s+k) d (by omega);rw[h4 _ (af _),dO,dB]at hs;rw[hs,cQ, <-hx, <-dt s k 1,aE,aF];have e5:18446744073709551616^(s+k)*d+18446744073709551616^(s+k)*(18446744073709551616*c2)=18446744073709551616^(s+k)*c+18446744073709551616^(s+k)*(x*2^t):=by rw[<-aH, <-aH,hd,rC];congr 1;omega
  have e6:18446744073709551616^s*(2^t*(aB (us.take k)+18446744073709551616^k*x))=18446744073709551616^s*(2^t*aB (us.take k))+18446744073709551616^(s+k)*(x*2^t):=by rw[aH,aH,aQ,dW (2^t),aC (2^t) x,aF]
  omega
theorem YW{N:Nat}(h:Bb us zs N s t k c)(hk:us.length<=k)(hN:s+k<N)(ht:t<64):bG (zs.set (s+k) c)/\aB (zs.set (s+k) c)=aB us*2^(64*s+t):=by obtain⟨h1,h2,h3,h4,h5⟩:=h;have hc:c<18446744073709551616:=az h3 (by have:=aA (n:=2) (by omega) (by omega:t<=64);omega);have hs:=ju zs (s+k) c (by omega);rw[h4 _ (af _),dO,dB]at hs;refine⟨iX h2 (by omega) hc,?_⟩;rw[hs,h5,eZ _ _ hk,aQ,dH, <-aF,aC (aB us)]
theorem zS(w:World)(u:Value)(z:Int)(m k:Nat)(hz:(k:Int)=min (max z 0) 1048576)(hu:fI w u m):Calls Tryz.prog 104 #[u,.int .i64 z] w fun e w'=>∃r,e=.returned r/\aU w.heap.size w' r (m*2^k)/\Below w.heap.size w w':=by
 obtain⟨ga,ba,oa,ca,us,rA,cA,vA,lA,CA⟩:=lM hu;have CA:=ag CA;obtain⟨la,fA⟩:∃la,la=us.length:=⟨_,rfl⟩;have hzero:=FR cA;rw[vA]at hzero;rw[<-fA]at CA lA hzero;obtain⟨s,hs⟩:∃s,s=k/64:=⟨_,rfl⟩;obtain⟨t,ht⟩:∃t,t=k%64:=⟨_,rfl⟩;have CW:=ag (fun w=>YU z k s t w hz hs ht);have hkb:k<=1048576:=by omega
 have hsb:s<=16384:=by omega
 have Wv:t<64:=by omega
 have hke:k=64*s+t:=by omega
 have HKE:=ag hke;have uY:=ag fA;have HVA:=ag vA;by_cases h0:la=0
 ·have hm0:m=0:=hzero.1 h0;subst hm0 h0;clear hu fA hzero hs ht hke hz;go_enter Tryz.func104,Tryz.ntmps104
  go_wp2_with fail
  refine(ae CA).mono ?_;rintro e w1 ⟨rfl,rfl⟩;clear CA;go_wp2;go_ret;exact⟨_,rfl,by rw[gX];exact tQ _ _,aj _ _⟩
 ·have RK:((la:Int)==0)=false:=by rw[dn];omega
  obtain⟨N,hN⟩:∃N,N=s+la+1:=⟨_,rfl⟩;have qG:=iV N N ((s:Int)+(la:Int)+1) (by omega) rfl (by omega);have zE:N<=1073758209:=by omega
  have hNl:s+la+1<=N:=by omega
  obtain⟨t2,E8⟩:∃t2,t2=64-t:=⟨_,rfl⟩;have et2:(64:Int)-(t:Int)=(t2:Int):=by omega
  have DG:=ag E8;have sj:cW (w.alloc (.cells (dS N).toArray 47)) w.heap.size (List.replicate N 0):=aI w _;have Ab:Below w.heap.size w (w.alloc (.cells (dS N).toArray 47)):=(aj _ _).alloc (af _) _;have HK0:=ag sj;have yA:=ag Ab;clear hu fA hzero hs ht hke hz h0 hN E8 sj Ab;go_enter Tryz.func104,Tryz.ntmps104
  go_wp2_with fail
  refine(ae CA).mono ?_;rintro e w1 ⟨rfl,rfl⟩;clear CA
  go_wp2_with fail
  refine(ae CW _).mono ?_;rintro e w2 ⟨rfl,rfl⟩;clear CW;go_wp2;clear qG
  go_loopw [8,29] (fun c i wr=>∃(q cy:Nat) (zs:List Nat),q<=la/\c=.int .u64 (cy:Int)/\i=.int .i64 (q:Int)/\cy<18446744073709551616/\zs.length=N/\cW wr w2.heap.size zs/\Hid (Bb us zs N s t q cy)/\Below w2.heap.size w2 wr)
   (fun _ i _=>la-(intOf i).toNat)
  case atStart=>exact⟨0,0,List.replicate N 0,aO _,rfl,rfl,by omega,by simp,ae HK0,OD us N s t,ae yA⟩
  case round=>
   obtain⟨q,cy,zs,hq,rfl,rfl,zH,kG,ef,fN,en⟩:=hrel;clear HK0 yA;by_cases h1:q<la
   ·obtain rfl:=rA.head (by rw[<-ae uY];omega);obtain⟨x,hx⟩:∃x:Nat,x=us.getD q 0:=⟨_,rfl⟩;have Af:x<18446744073709551616:=by rw[hx];exact cA.1 q
    have cx:wr.cell? ⟨ba,oa+q,none⟩=some (.int .u64 (x:Int)):=by rw[hx];exact(en.cell (by exact rA.lt (by rw[<-ae uY];omega))).trans (rA.cell q (by rw[<-ae uY];omega))
    have cr:wr.cell? ⟨w2.heap.size,s+q,none⟩=some (.int .u64 (((zs.getD (s+q) 0:Nat)):Int)):=ef.cell (s+q) (by omega);have fr:=ef.frozen (s+q);have hc3:=fN.out.2.2.1;obtain⟨e1,e2,e3,e4⟩:=Qn Af Wv hc3;obtain⟨l,hl⟩:∃l,l=x*2^t%18446744073709551616:=⟨_,rfl⟩;have el:=Ig x t;rw[<-hl]at el e1 e2;obtain⟨d,hd⟩:∃d,d=l+cy:=⟨_,rfl⟩;have afd:l<18446744073709551616:=(by omega);have eo:=nW l cy afd zH;rw[e1, <-hd]at eo;obtain⟨c2,rC⟩:∃c2,c2=x/2^t2:=⟨_,rfl⟩;have es2:=nQ x t2;rw[<-rC]at es2;have H2:=ag (TT (d:=d) (c2:=c2) fN.out (by omega) hx Af Wv (by rw[hd,hl]) (by rw[rC,ae DG]));have Na:c2<18446744073709551616:=by rw[rC];exact aN (bT _ _) Af
    clear hx hl hd rC e1 e2 e3 e4 hc3 fN;go_wp2;exact⟨⟨q+1,c2,zs.set (s+q) d,by omega,rfl,by go_num,Na,by simpa using kG,ef.set (s+q) d,H2,en.setCell (af _) _⟩,by simp[intOf];omega⟩
   ·obtain rfl:q=la:=(by omega);have cr:wr.cell? ⟨w2.heap.size,s+q,none⟩=some (.int .u64 (((zs.getD (s+q) 0:Nat)):Int)):=ef.cell (s+q) (by omega);have fr:=ef.frozen (s+q);obtain⟨hd,hv⟩:=YW fN.out (by rw[<-ae uY];omega) (by omega) Wv;rw[ae HVA, <-ae HKE]at hv;have k5:=ef.set (s+q) cy;have HV:=ag hv;have HK5:=ag k5;have HB5:=ag (en.setCell (p:=⟨w2.heap.size,s+q,none⟩) (af _) (.int .u64 (cy:Int)));have HL5:Hid ((zs.set (s+q) cy).length=N):=by show _=_;simpa using kG
    clear hv k5 fN
    go_wp2_with fail
    refine(nA (B:=w2.heap.size) (ae HL5) (by omega) (af _) (ae HK5) hd).mono ?_;rintro e w6 ⟨r,rfl,hr,rfl⟩;rw[ae HV]at hr;go_wp2;go_ret;exact⟨r,rfl,hr,ae HB5⟩
theorem cH.abf(h:cH w (some ⟨b,o,none⟩) b o cap xs)(hs:s<=xs.length):cH w (some ⟨b,o+s,none⟩) b (o+s) (cap-s) (xs.drop s):=by
 have hl:(xs.drop s).length=xs.length-s:=by simp
 refine⟨fun _=>rfl,by have:=h.room;omega,fun j hj=>?_⟩;have e:(xs.drop s).getD j 0=xs.getD (s+j) 0:=by simp[List.getD_eq_getElem?_getD]
 rw[e,dt];exact h.cell (s+j) (by omega)
theorem Rl(hc:c<18446744073709551616)(ht:t<64)(hr:r<2^t):(c/2^t)||| (r*2^(64-t))=(18446744073709551616*r+c)/2^t/\r*2^(64-t)<18446744073709551616/\c*2^(64-t)%18446744073709551616=((18446744073709551616*r+c)%2^t)*2^(64-t):=by
 have hp:=uT t (by omega);have vo:0<2^t:=bR (by omega);have h1:c/2^t<2^(64-t):=by rw[aR vo,hp];exact hc
 have h2:(r+1)*2^(64-t)<=2^t*2^(64-t):=ax _ hr;have e0:18446744073709551616*r=2^t*(r*2^(64-t)):=by rw[<-hp,aC (2^(64-t)),aF,aC r]
 have Wp:0<2^(64-t):=bR (by omega);rw[aX,cX,aC (2^t),hp]at h2;refine⟨?_,by omega,?_⟩
 ·rw[Nat.or_comm,Hl r (c/2^t) (64-t) h1,e0,gC vo]
 ·rw[e0,kq, <-hp,aC (2^(64-t)) (2^t),je]
theorem Dy(h:bG xs)(s t:Nat):aB (xs.drop s)/2^t=aB xs/2^(64*s+t):=by rw[aQ, <-cI,dH];congr 1;have hv:=ja xs s;have hl:=mU h s;rw[hv,show(2:Nat)^64=18446744073709551616 from rfl,g9 _ _ (iZ s),bq hl,bh]
theorem tV(w:World)(u:Value)(z:Int)(m k:Nat)(hz:(k:Int)=min (max z 0) 1048576)(hu:fI w u m):Calls Tryz.prog 105 #[u,.int .i64 z] w fun e w'=>∃r,e=.returned r/\aU w.heap.size w' r (m/2^k)/\Below w.heap.size w w':=by
 obtain⟨ga,ba,oa,ca,xs,rfl,rA,dA,vA,lA⟩:=hu;obtain⟨la,fA⟩:∃la,la=xs.length:=⟨_,rfl⟩;have jt:=rA.room;rw[<-fA]at lA jt ⊢;obtain⟨s,hs⟩:∃s,s=k/64:=⟨_,rfl⟩;obtain⟨t,ht⟩:∃t,t=k%64:=⟨_,rfl⟩;have CW:=ag (fun w=>YU z k s t w hz hs ht);have Wv:t<64:=by omega
 have hke:k=64*s+t:=by omega
 have hval:aB (xs.drop s)/2^t=m/2^k:=by rw[Dy dA, <-hke,vA]
 have HVL:=ag hval;have uY:=ag fA;by_cases h0:la<=s
 ·have h0i:(la:Int)<=(s:Int):=by omega
  have jx:Hid (m/2^k=0):=by show _=_;rw[<-hval,aT (by omega),show aB []=0 from rfl,abL]
  clear fA hs ht hke hz hval vA;go_enter Tryz.func105,Tryz.ntmps105
  go_wp2_with fail
  refine(ae CW _).mono ?_;rintro e w2 ⟨rfl,rfl⟩;clear CW;go_wp2;go_ret;exact⟨_,rfl,by rw[ae jx];exact tQ _ _,aj _ _⟩
 ·have h0i:¬(la:Int)<=(s:Int):=by omega
  obtain rfl:=rA.head (by omega);obtain⟨M,hM⟩:∃M,la=s+M:=⟨la-s,by omega⟩;have hMs:la-s=M:=by omega
  have sH:¬ca=s:=by omega
  have hsi:0<=(s:Int)/\(s:Int)<=(la:Int):=by omega
  obtain⟨cc,qW⟩:∃cc,cc=ca-s:=⟨_,rfl⟩;have rD:=rA.abf (s:=s) (by omega);rw[<-qW]at rD;have afO:ca-s=cc:=qW.symm;have dD:=fJ dA s;have wE:(xs.drop s).length=M:=by simp;omega
  obtain⟨t2,E8⟩:∃t2,t2=64-t:=⟨_,rfl⟩;have et2:(64:Int)-(t:Int)=(t2:Int):=by omega
  have DG:=ag E8;have DT:0<2^t:=bR (by omega);have aef:2^t<18446744073709551616:=by have:=aA (n:=2) (by omega) (by omega:t<=63);omega
  have aeK:=ag aef;have hMb:M<=1073741824:=by omega
  clear fA hs ht hke hz hval vA E8 hM qW aef rA jt dA;generalize xs.drop s=os at *;have HDL:=ag wE;clear wE;go_enter Tryz.func105,Tryz.ntmps105
  go_wp2_with fail
  refine(ae CW _).mono ?_;rintro e w2 ⟨rfl,rfl⟩;clear CW
  go_wp2_with fail
  refine(rk _ _ ba (oa+s) cc M os (ae HDL) (by omega) rD).mono ?_;rintro e w3 ⟨rfl,k3,b3⟩;go_wp2
  go_loopw [8,9] (fun c i wr=>∃(q r cy:Nat) (zs:List Nat),q<=M/\c=.int .u64 (cy:Int)/\i=.int .i64 ((q:Int)-1)/\cy<18446744073709551616/\zs.length=M/\cW wr w2.heap.size zs/\Hid (cy=r*2^t2)/\Hid (yJ os zs (2^t) q r)/\Below w2.heap.size w2 wr)
   (fun _ i _=>(intOf i+1).toNat)
  case atStart=>exact⟨M,0,0,os,af _,rfl,rfl,by omega,ae HDL,k3,by show 0=0*_;rw[gX],by rw[<-ae HDL];exact Dq dD DT,b3⟩
  case round=>
   obtain⟨q,r,cy,zs,hq,rfl,rfl,zH,kG,ef,hCy,fN,en⟩:=hrel;by_cases h1:q=0
   ·subst h1;obtain⟨e1,_⟩:=LR fN.out;rw[ae HVL]at e1;have hd:=fN.out.2.1;have HE:=ag e1;clear e1 fN hCy
    go_wp2_with fail
    refine(nA (B:=w2.heap.size) kG (by omega) (af _) ef hd).mono ?_;rintro e w6 ⟨v,rfl,hv,rfl⟩;rw[ae HE]at hv;go_wp2;go_ret;exact⟨v,rfl,hv,en⟩
   ·obtain⟨j,rfl⟩:∃j,q=j+1:=⟨q-1,by omega⟩;have ej:((j+1:Nat):Int)-1=(j:Int):=(by omega);rw[ej];obtain⟨c,hc⟩:∃c:Nat,c=zs.getD j 0:=⟨_,rfl⟩;have cr:wr.cell? ⟨w2.heap.size,j,none⟩=some (.int .u64 (c:Int)):=by rw[hc];exact ef.cell j (by omega)
    have fr:=ef.frozen j;have Na:c<18446744073709551616:=by rw[hc];exact fN.out.2.1 j
    obtain⟨Q,hQ⟩:∃Q,Q=(18446744073709551616*r+c)/2^t:=⟨_,rfl⟩;obtain⟨R,hR⟩:∃R,R=(18446744073709551616*r+c)%2^t:=⟨_,rfl⟩;obtain⟨H2,Wq⟩:=FM fN.out (by rw[ae HDL];omega) (ae aeK) hc hQ hR;obtain⟨f1,f2,f3⟩:=Rl Na Wv fN.out.2.2.1;rw[<-ae DG, <-hCy.out, <-hQ]at f1;rw[<-ae DG, <-hR]at f3;have H2:=ag H2;obtain⟨a,ha⟩:∃a,a=c/2^t:=⟨_,rfl⟩;have es:=nQ c t;rw[<-ha]at es f1;have ae2:a<18446744073709551616:=by rw[ha];exact aN (bT _ _) Na
    have eo:=nW a cy ae2 zH;rw[f1]at eo;have el:=Ig c t2;obtain⟨c2,rC⟩:∃c2,c2=c*2^t2%18446744073709551616:=⟨_,rfl⟩;rw[<-rC]at el f3;have ae4:c2<18446744073709551616:=by rw[rC];exact aD _ (by omega)
    have HF3:=ag f3;clear hc hQ hR f1 f2 f3 ha rC fN hCy;go_wp2;exact⟨⟨j,R,c2,zs.set j Q,by omega,rfl,by go_num,ae4,by simpa using kG,ef.set j Q,HF3,H2,en.setCell (af _) _⟩,by simp[intOf]⟩
theorem fI.drew(h:fI w v n):fI w.drew v n:=by obtain⟨ga,b,o,cap,xs,rfl,hr,hd,hv,hl⟩:=h;exact⟨ga,b,o,cap,xs,rfl,hr.drew,hd,hv,hl⟩
theorem rF(w:World)(ga:Option Addr)(cap:Nat):fI w (.slice ga 0 cap) 0:=⟨ga,0,0,cap,[],rfl,cH.nil _ _ _ _ _,Dp,rfl,by simp⟩
theorem uH(h:fI w (.slice ga 0 cap) n):n=0:=by
 obtain⟨Uc,b,o,qd,xs,he,_,_,hv,_⟩:=h;have hl:xs.length=0:=by injection he with _ h2 _;exact h2.symm
 obtain rfl:xs=[]:=dQ.1 hl;exact hv.symm
def QJ(w:World)(LO HI:Nat)(e:Ending)(w':World):Prop:=∃lo hi B1 M1 B2 M2,e=.returned (.tuple #[lo,hi])/\gh B1 M1 w' lo LO/\gh B2 M2 w' hi HI/\w.heap.size<=B1/\w.heap.size<=B2/\M1<=w'.heap.size/\M2<=w'.heap.size/\(M1<=B2\/M2<=B1)/\Below w.heap.size w w'
theorem P6(w:World)(u:Value)(z:Int)(m k:Nat)(hz:(k:Int)=min (max z 0) 16384)(hu:fI w u m):Calls Tryz.prog 207 #[u,.int .i64 z] w (QJ w (m%18446744073709551616^k) (m/18446744073709551616^k)):=by
 have CW:=ag (fun w=>wu z 16384 k w hz);obtain⟨ga,ba,oa,ca,xs,rfl,rA,dA,vA,lA⟩:=hu;obtain⟨la,fA⟩:∃la,la=xs.length:=⟨_,rfl⟩;have jt:=rA.room;rw[<-fA]at lA jt ⊢;obtain⟨s,hs⟩:∃s,s=min k la:=⟨_,rfl⟩;have Wn:min (k:Int) (la:Int)=(s:Int):=by omega
 have hv:=ja xs s;have hl:=mU dA s;have aep:aB (xs.take s)=m%18446744073709551616^k:=by
  by_cases h:k<=la
  ·obtain rfl:s=k:=(by omega);rw[<-vA,hv,ez,bc hl]
  ·have h1:=oX (bF dA) (q:=k) (by omega);rw[bK (by omega),vA,bc (by rw[<-vA];exact h1)]
 have G_:aB (xs.drop s)=m/18446744073709551616^k:=by
  by_cases h:k<=la
  ·obtain rfl:s=k:=(by omega);rw[<-vA,hv,g9 _ _ (iZ s),bq hl,bh]
  ·have h1:=oX (bF dA) (q:=k) (by omega);rw[aT (by omega),bq (by rw[<-vA];exact h1)];rfl
 have af4:s<=la:=by omega
 generalize m%18446744073709551616^k=LO at *;generalize m/18446744073709551616^k=HI at *;have Mm:fI w (.slice ga s ca) LO:=⟨ga,ba,oa,ca,xs.take s,by rw[cF,bu (by omega)],rA.take s (by omega),gH dA s,aep,by simp;omega⟩;have VY:∀Uc c2,(ga=some ⟨ba,oa,none⟩->s<la->Uc=some ⟨ba,oa+s,none⟩/\c2=ca-s)->fI w (.slice Uc (la-s) c2) HI:=fun Uc c2 h=>by
  by_cases h0:s<la
  ·have hg:=rA.head (by omega);obtain⟨rfl,rfl⟩:=h hg h0;subst hg;exact⟨_,ba,oa+s,_,xs.drop s,by rw[gP,fA],rA.abf (by omega),fJ dA s,G_,by simp;omega⟩
  ·have e:la-s=0:=(by omega);rw[aT (by omega)]at G_;have hH0:HI=0:=G_.symm;rw[e,hH0];exact rF _ _ _
 have hsi:0<=(s:Int)/\(s:Int)<=(la:Int):=by omega
 have acD:0<=(s:Int)/\(s:Int)<=(ca:Int):=by omega
 have GM:0<la->ga=some ⟨ba,oa,none⟩:=fun h=>rA.head (by omega);have dh:s<la->¬ca=s:=fun h=>by omega
 obtain⟨M,hM⟩:∃M,la-s=M:=⟨_,rfl⟩;rw[hM]at VY;obtain⟨cc,qW⟩:∃cc,ca-s=cc:=⟨_,rfl⟩;clear hv hl aep G_ hs fA vA rA dA hz;have bl:=aj w.heap.size w;cases ga with
 |none=>
  obtain rfl:la=0:=by refine Nat.eq_zero_of_not_pos fun h=>?_;have:=GM h;cases this
  obtain rfl:s=0:=by omega
  obtain rfl:M=0:=by omega
  have abl:min (k:Int) 0=0:=by omega
  obtain rfl:HI=0:=uH (VY none 0 (fun _ h=>absurd h (by omega)));obtain rfl:LO=0:=uH Mm;have T1:Hid True:=trivial;clear GM dh VY Mm Wn hsi acD hM qW jt;go_enter Jl,DM
  go_wp2_with fail
  refine(ae CW _).mono ?_;rintro e w1 ⟨rfl,rfl⟩;clear CW;go_wp2
  go_region_with (first
    |(go_at_call 93;clear T1;refine(nO _ _ 0 ?_).mono ?_;exact rF _ _ _;rintro e wL ⟨lo,rfl,uP,bL⟩;have uP:=uP.born;have bl:=(by exact aJ bl.drew bL:Below w1.heap.size w1 wL))
    |(go_at_call 93;refine(nO _ _ 0 ?_).mono ?_;exact rF _ _ _;rintro e wH ⟨hi,rfl,yh,bH⟩;have yh:=yh.born;have uP:=uP.next bH;have bl:=(by exact aJ bl bH:Below w1.heap.size w1 wH)))
  all_goals
   go_wp2
   go_ret2
   first
    |exact⟨lo,hi,_,_,_,_,rfl,uP,yh,af _,bL.size,bH.size,af _,Or.inl (af _),bl⟩
    |exact⟨hi,lo,_,_,_,_,rfl,yh,uP,bL.size,af _,af _,bH.size,Or.inr (af _),bl⟩
 |some x=>
  by_cases h0:la=0
  ·subst h0;by_cases zG:ca=0
   ·subst zG;obtain rfl:s=0:=(by omega);obtain rfl:M=0:=(by omega);have abl:min (k:Int) 0=0:=(by omega);obtain rfl:HI=0:=uH (VY none 0 (fun _ h=>absurd h (by omega)));obtain rfl:LO=0:=uH Mm;have T1:Hid True:=trivial;clear GM dh VY Mm Wn hsi acD hM qW jt;go_enter Jl,DM
    go_wp2_with fail
    refine(ae CW _).mono ?_;rintro e w1 ⟨rfl,rfl⟩;clear CW;go_wp2
    go_region_with (first
      |(go_at_call 93;clear T1;refine(nO _ _ 0 ?_).mono ?_;exact rF _ _ _;rintro e wL ⟨lo,rfl,uP,bL⟩;have uP:=uP.born;have bl:=(by exact aJ bl.drew bL:Below w1.heap.size w1 wL))
      |(go_at_call 93;refine(nO _ _ 0 ?_).mono ?_;exact rF _ _ _;rintro e wH ⟨hi,rfl,yh,bH⟩;have yh:=yh.born;have uP:=uP.next bH;have bl:=(by exact aJ bl bH:Below w1.heap.size w1 wH)))
    all_goals
     go_wp2
     go_ret2
     first
      |exact⟨lo,hi,_,_,_,_,rfl,uP,yh,af _,bL.size,bH.size,af _,Or.inl (af _),bl⟩
      |exact⟨hi,lo,_,_,_,_,rfl,yh,uP,bL.size,af _,af _,bH.size,Or.inr (af _),bl⟩
   ·skip
    obtain rfl:s=0:=(by omega);obtain rfl:M=0:=(by omega);have abl:min (k:Int) 0=0:=(by omega);obtain rfl:HI=0:=uH (VY none 0 (fun _ h=>absurd h (by omega)));obtain rfl:LO=0:=uH Mm;have T1:Hid True:=trivial;clear GM dh VY Mm Wn hsi acD hM qW jt;go_enter Jl,DM
    go_wp2_with fail
    refine(ae CW _).mono ?_;rintro e w1 ⟨rfl,rfl⟩;clear CW;go_wp2
    go_region_with (first
      |(go_at_call 93;clear T1;refine(nO _ _ 0 ?_).mono ?_;exact rF _ _ _;rintro e wL ⟨lo,rfl,uP,bL⟩;have uP:=uP.born;have bl:=(by exact aJ bl.drew bL:Below w1.heap.size w1 wL))
      |(go_at_call 93;refine(nO _ _ 0 ?_).mono ?_;exact rF _ _ _;rintro e wH ⟨hi,rfl,yh,bH⟩;have yh:=yh.born;have uP:=uP.next bH;have bl:=(by exact aJ bl bH:Below w1.heap.size w1 wH)))
    all_goals
     go_wp2
     go_ret2
     first
      |exact⟨lo,hi,_,_,_,_,rfl,uP,yh,af _,bL.size,bH.size,af _,Or.inl (af _),bl⟩
      |exact⟨hi,lo,_,_,_,_,rfl,yh,uP,bL.size,af _,af _,bH.size,Or.inr (af _),bl⟩
  ·cases GM (by omega);by_cases sH:ca=s
   ·subst sH;obtain rfl:cc=0:=(by omega);have WE:=VY (some ⟨ba,oa,none⟩) 0 (fun _ h=>absurd rfl (dh h));have hMz:ca-ca=0:=(by omega);clear qW;clear GM dh VY;go_enter Jl,DM
    go_wp2_with fail
    refine(ae CW _).mono ?_;rintro e w1 ⟨rfl,rfl⟩;clear CW;go_wp2
    go_region_with (first
      |(go_at_call_of 93 (Value.slice (some ⟨ba,oa,none⟩) ca ca);refine(nO _ _ LO ?_).mono ?_;(first|exact Mm.drew|exact Mm);rintro e wL ⟨lo,rfl,uP,bL⟩;have uP:=uP.born;(try have yh:=yh.next bL);(try have WE:=(by first|exact WE.drew.next bL|exact WE.next bL:fI wL (Value.slice (some ⟨ba,oa,none⟩) M 0) HI));have bl:=(by first|exact aJ bl.drew bL|exact aJ bl bL:Below w1.heap.size w1 wL))
      |(go_at_call_of 93 (Value.slice (some ⟨ba,oa,none⟩) M 0);refine(nO _ _ HI ?_).mono ?_;(first|exact WE.drew|exact WE);rintro e wH ⟨hi,rfl,yh,bH⟩;have yh:=yh.born;(try have uP:=uP.next bH);(try have Mm:=(by first|exact Mm.drew.next bH|exact Mm.next bH:fI wH (Value.slice (some ⟨ba,oa,none⟩) ca ca) LO));have bl:=(by first|exact aJ bl.drew bH|exact aJ bl bH:Below w1.heap.size w1 wH)))
    all_goals
     go_wp2
     go_ret2
     first
      |exact⟨lo,hi,_,_,_,_,rfl,uP,yh,af _,bL.size,bH.size,af _,Or.inl (af _),bl⟩
      |exact⟨lo,hi,_,_,_,_,rfl,uP,yh,bH.size,af _,af _,bL.size,Or.inr (af _),bl⟩
   ·have WE:=VY (some ⟨ba,oa+s,none⟩) cc (fun _ _=>⟨rfl,qW.symm⟩);clear GM dh VY;go_enter Jl,DM
    go_wp2_with fail
    refine(ae CW _).mono ?_;rintro e w1 ⟨rfl,rfl⟩;clear CW;go_wp2
    go_region_with (first
      |(go_at_call_of 93 (Value.slice (some ⟨ba,oa,none⟩) s ca);refine(nO _ _ LO ?_).mono ?_;(first|exact Mm.drew|exact Mm);rintro e wL ⟨lo,rfl,uP,bL⟩;have uP:=uP.born;(try have yh:=yh.next bL);(try have WE:=(by first|exact WE.drew.next bL|exact WE.next bL:fI wL (Value.slice (some ⟨ba,oa+s,none⟩) M cc) HI));have bl:=(by first|exact aJ bl.drew bL|exact aJ bl bL:Below w1.heap.size w1 wL))
      |(go_at_call_of 93 (Value.slice (some ⟨ba,oa+s,none⟩) M cc);refine(nO _ _ HI ?_).mono ?_;(first|exact WE.drew|exact WE);rintro e wH ⟨hi,rfl,yh,bH⟩;have yh:=yh.born;(try have uP:=uP.next bH);(try have Mm:=(by first|exact Mm.drew.next bH|exact Mm.next bH:fI wH (Value.slice (some ⟨ba,oa,none⟩) s ca) LO));have bl:=(by first|exact aJ bl.drew bH|exact aJ bl bH:Below w1.heap.size w1 wH)))
    all_goals
     go_wp2
     go_ret2
     first
      |exact⟨lo,hi,_,_,_,_,rfl,uP,yh,af _,bL.size,bH.size,af _,Or.inl (af _),bl⟩
      |exact⟨lo,hi,_,_,_,_,rfl,uP,yh,bH.size,af _,af _,bL.size,Or.inr (af _),bl⟩
end
end Go.Proofs.YtkdmippllpekfaaGreatDoor
