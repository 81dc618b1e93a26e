/- addTo and takeFrom of limb: a row is added to a piece of another, or taken from it. -/
import Derived.Test.YtgcnhfgpflncaaaGreatDoorB14
import Derived.Test.YtgcnhfgpflncaaaGreatDoorB29
import Derived.Deep.QuietTactic
import Derived.BigQuiet
import Derived.WalkSmall
import Derived.Deep.RegionWith
import Derived.Test.YtgcnhfgpflncaaaGreatDoorB3
import Derived.Test.YtgcnhfgpflncaaaGreatDoorB5
import Derived.Test.YtgcnhfgpflncaaaGreatDoorB13
import Derived.Test.YtgcnhfgpflncaaaGreatDoorB11
import Derived.Test.YtgcnhfgpflncaaaGreatDoorB10
import Derived.Test.YtgcnhfgpflncaaaGreatDoorB8
import Derived.Test.YtgcnhfgpflncaaaGreatDoorB27
import Derived.Test.YtgcnhfgpflncaaaGreatDoorB7
import Derived.Test.YtgcnhfgpflncaaaGreatDoorB1
namespace Go.Proofs.YtgcnhfgpflncaaaGreatDoor
open Go.RowKit
def kS(z0 zs bs:List Nat)(o k c:Nat):Prop:=zs.length=z0.length/\ao zs/\c<=1/\af zs+18446744073709551616^(o+k)*c=af z0+18446744073709551616^o*af (bs.take k)
theorem zH{z0:List Nat}(h:ao z0)(bs:List Nat)(o:Nat):kS z0 z0 bs o 0 0:=⟨rfl,h,by omega,by simp[af]⟩
theorem sj{z0 zs bs:List Nat}{o k c r b:Nat}(h:kS z0 zs bs o k c)(hk:o+k<zs.length)(hr:r=zs.getD (o+k) 0)(hb:b=bs.getD k 0)(hb64:b<18446744073709551616):
  kS z0 (zs.set (o+k) ((r+b+c)%18446744073709551616)) bs o (k+1) ((r+b+c)/18446744073709551616):=by
 obtain⟨h1,h2,h3,h4⟩:=h
 have hr64:r<18446744073709551616:=by rw[hr];exact h2 _
 refine⟨by simpa using h1,bG h2 hk (Nat.mod_lt _ (by omega)),by omega,?_⟩
 have hs:=cj zs (o+k) ((r+b+c)%18446744073709551616) hk
 rw[<-hr]at hs
 rw[ay, <-hb,Nat.mul_add, <-Nat.mul_assoc, <-Nat.pow_add, <-Nat.add_assoc o k 1,Nat.pow_succ,Nat.mul_assoc]
 have e:18446744073709551616^(o+k)*((r+b+c)%18446744073709551616)+18446744073709551616^(o+k)*(18446744073709551616*((r+b+c)/18446744073709551616))=18446744073709551616^(o+k)*r+18446744073709551616^(o+k)*b+18446744073709551616^(o+k)*c:=by
  rw[<-Nat.mul_add,Nat.mod_add_div,Nat.mul_add,Nat.mul_add]
 omega
theorem Fb{z0 zs bs:List Nat}{o k c N:Nat}(h:kS z0 zs bs o k c)(hk:bs.length<=k)(hc:0<c)(hr:af z0+18446744073709551616^o*af bs<18446744073709551616^N):o+k<N:=by
 obtain⟨_,_,h3,h4⟩:=h
 rw[aK _ _ hk,show c=1 from by omega,Nat.mul_one]at h4
 refine Nat.lt_of_not_le fun hle=>?_
 have:=Nat.pow_le_pow_right (n:=18446744073709551616) (by omega) hle
 omega
theorem JE{z0 zs bs:List Nat}{o k c:Nat}(h:kS z0 zs bs o k c)(hk:bs.length<=k)(hc:c=0):af zs=af z0+18446744073709551616^o*af bs:=by
 obtain⟨_,_,_,h4⟩:=h
 rw[aK _ _ hk,hc,Nat.mul_zero]at h4
 exact h4
def kT(z0 zs bs:List Nat)(o k c:Nat):Prop:=zs.length=z0.length/\ao zs/\c<=1/\af zs+18446744073709551616^o*af (bs.take k)=af z0+18446744073709551616^(o+k)*c
theorem zN{z0:List Nat}(h:ao z0)(bs:List Nat)(o:Nat):kT z0 z0 bs o 0 0:=⟨rfl,h,by omega,by simp[af]⟩
theorem sA{z0 zs bs:List Nat}{o k c r b:Nat}(h:kT z0 zs bs o k c)(hk:o+k<zs.length)(hr:r=zs.getD (o+k) 0)(hb:b=bs.getD k 0)(hb64:b<18446744073709551616):
  kT z0 (zs.set (o+k) ((r+18446744073709551616-b-c)%18446744073709551616)) bs o (k+1) (if r<b+c then 1 else 0):=by
 obtain⟨h1,h2,h3,h4⟩:=h
 have hr64:r<18446744073709551616:=by rw[hr];exact h2 _
 refine⟨by simpa using h1,bG h2 hk (Nat.mod_lt _ (by omega)),by split<;>omega,?_⟩
 have hs:=cj zs (o+k) ((r+18446744073709551616-b-c)%18446744073709551616) hk
 rw[<-hr]at hs
 rw[ay, <-hb,Nat.mul_add, <-Nat.mul_assoc, <-Nat.pow_add, <-Nat.add_assoc o k 1,Nat.pow_succ,Nat.mul_assoc]
 have hd:(r+18446744073709551616-b-c)%18446744073709551616+b+c=r+18446744073709551616*(if r<b+c then 1 else 0):=by split<;>omega
 have e:18446744073709551616^(o+k)*((r+18446744073709551616-b-c)%18446744073709551616)+18446744073709551616^(o+k)*b+18446744073709551616^(o+k)*c=18446744073709551616^(o+k)*r+18446744073709551616^(o+k)*(18446744073709551616*(if r<b+c then 1 else 0)):=by
  rw[<-Nat.mul_add, <-Nat.mul_add,hd,Nat.mul_add]
 omega
theorem JL{z0 zs bs:List Nat}{o k:Nat}(h:kT z0 zs bs o k 0)(hk:bs.length<=k):af zs+18446744073709551616^o*af bs=af z0:=by
 obtain⟨_,_,_,h4⟩:=h
 rw[aK _ _ hk,Nat.mul_zero]at h4
 exact h4
theorem Fj{z0 zs bs:List Nat}{o k:Nat}(h:kT z0 zs bs o k 1)(hk:bs.length<=k)(hN:z0.length<=o+k):af z0<18446744073709551616^o*af bs:=by
 obtain⟨h1,h2,_,h4⟩:=h
 rw[aK _ _ hk,Nat.mul_one]at h4
 have:=ak h2
 have:=Nat.pow_le_pow_right (n:=18446744073709551616) (by omega) hN
 rw[h1]at *
 omega
theorem qo(c:Nat)(h:c<=1):(c=0/\c=0)\/(c≠0/\c=1):=by omega
set_option maxRecDepth 100000 in
set_option maxHeartbeats 3200000 in
theorem mI(w:World)(g o n cap bb ob cb lb:Nat)(gb:Option Addr)(z0 bs:List Nat)(hz:z0.length=o+n)(hbl:bs.length=lb)(hlb:lb<=n)(hn:o+n<=1099511627776)
  (hZ:aB w g z0) (dz:ao z0) (hB:Rep w gb bb ob cb bs) (db:ao bs) (hne:0<bs.length->bb≠g) (hroom:af z0+18446744073709551616^o*af bs<18446744073709551616^(o+n)):
  Calls Tryz.prog 75 #[.slice (some ⟨g,o,none⟩) n cap,.slice gb lb cb] w fun e w'=>e=.returned (.tuple #[])/\∃ zs,zs.length=o+n/\ao zs/\aB w' g zs/\af zs=af z0+18446744073709551616^o*af bs/\w.grownBy w' (some g):=by
 have HROOM:=hide hroom
 have HNE:=hide hne
 clear hroom hne
 go_enter Tryz.func75,Tryz.ntmps75
 go_wp2
 go_loopw [4,10] (fun c i wr=>∃(k cy:Nat) (zs:List Nat),k<=lb/\c=.int .u64 (cy:Int)/\i=.int .i64 (k:Int)/\cy<=1/\aB wr g zs/\Hid (kS z0 zs bs o k cy)/\Rep wr gb bb ob cb bs/\w.grownBy wr (some g))
  (fun _ i _=>lb-(intOf i).toNat)
 case atStart=>exact⟨0,0,z0,Nat.zero_le _,rfl,rfl,by omega,hZ,zH dz bs o,hB,bK _ _⟩
 case round=>
  obtain⟨k,cy,zs,hk,rfl,rfl,hcy,hBlk,hAt,hRb,hG⟩:=hrel
  have hzl:zs.length=o+n:=by rw[hAt.out.1];exact hz
  by_cases h1:k<lb
  ·obtain rfl:=hRb.head (by omega)
   obtain⟨b,hb⟩:∃ b:Nat,b=bs.getD k 0:=⟨_,rfl⟩
   have hb64:b<18446744073709551616:=by rw[hb];exact db k
   have cb:wr.cell? ⟨bb,ob+k,none⟩=some (.int .u64 (b:Int)):=by rw[hb];exact hRb.cell k (by omega)
   obtain⟨r,hr⟩:∃ r:Nat,r=zs.getD (o+k) 0:=⟨_,rfl⟩
   have cr:wr.cell? ⟨g,o+k,none⟩=some (.int .u64 (r:Int)):=by rw[hr];exact hBlk.cell (o+k) (by omega)
   have fr:=hBlk.frozen (o+k)
   have H2:=hide (sj hAt.out (by omega) hr hb hb64)
   have CA:=hide (fun w=>ef r b cy cy w (qo cy hcy))
   have hc2:=(ae H2).2.2.1
   generalize (r+b+cy)%18446744073709551616=d at *
   generalize (r+b+cy)/18446744073709551616=c2 at *
   clear hr hb
   go_wp2_with fail
   refine(ae CA _).mono ?_
   rintro e w1 ⟨rfl,rfl⟩
   go_wp2
   exact⟨⟨k+1,c2,_,by omega,rfl,by go_num,hc2,hBlk.set (o+k) d,H2,hRb.but (aj _ _ _ _) (ae HNE),az hG (aj _ _ _ _)⟩,by simp[intOf];omega⟩
  ·obtain rfl:k=lb:=by omega
   go_wp2
   go_loopw [4,7] (fun c i wi=>∃(q cy:Nat) (zs:List Nat),k<=q/\q<=n/\c=.int .u64 (cy:Int)/\i=.int .i64 (q:Int)/\cy<=1/\aB wi g zs/\Hid (kS z0 zs bs o q cy)/\w.grownBy wi (some g))
    (fun _ i _=>n-(intOf i).toNat)
   case atStart=>exact⟨k,cy,zs,Nat.le_refl _,hlb,rfl,rfl,hcy,hBlk,hAt,hG⟩
   case round=>
    obtain⟨q,cy,zs,hq1,hq2,rfl,rfl,hcy,hBlk,hAt,hG⟩:=hrel
    have hzl:zs.length=o+n:=by rw[hAt.out.1];exact hz
    by_cases h2:cy=0
    ·subst h2
     have hv:=JE hAt.out (by omega) rfl
     have HV:=hide hv
     have HD:=hide hAt.out.2.1
     clear hv hAt
     go_wp2
     go_end0
     exact⟨rfl,zs,hzl,ae HD,hBlk,ae HV,hG⟩
    ·obtain rfl:cy=1:=by omega
     have hqn:=Fb hAt.out (by omega) (by omega) (ae HROOM)
     obtain⟨r,hr⟩:∃ r:Nat,r=zs.getD (o+q) 0:=⟨_,rfl⟩
     have cr:wr.cell? ⟨g,o+q,none⟩=some (.int .u64 (r:Int)):=by rw[hr];exact hBlk.cell (o+q) (by omega)
     have fr:=hBlk.frozen (o+q)
     have H2:=hide (sj (b:=0) hAt.out (by omega) hr (by rw[dU (by omega)]) (by omega))
     have CA:=hide (fun w=>ef r 0 1 1 w (Or.inr ⟨by omega,rfl⟩))
     have hc2:=(ae H2).2.2.1
     generalize (r+0+1)%18446744073709551616=d at *
     generalize (r+0+1)/18446744073709551616=c2 at *
     have hqn2:q<n:=by omega
     clear hr hqn
     go_wp2_with fail
     refine(ae CA _).mono ?_
     rintro e w1 ⟨rfl,rfl⟩
     go_wp2
     exact⟨⟨q+1,c2,_,by omega,by omega,rfl,by go_num,hc2,hBlk.set (o+q) d,H2,az hG (aj _ _ _ _)⟩,by simp[intOf];omega⟩
def uO(w:World)(g o n:Nat)(z0 bs:List Nat)(e:Ending)(w':World):Prop:=∃(c:Nat) (zs:List Nat),e=.returned (.int .u64 (c:Int))/\c<=1/\zs.length=o+n/\ao zs/\aB w' g zs/\w.grownBy w' (some g)/\
 ((c=0/\af zs+18446744073709551616^o*af bs=af z0)\/(c=1/\af z0<18446744073709551616^o*af bs))
theorem ug{w w':World}{g o n:Nat}{z0 bs:List Nat}(c:Nat)(zs:List Nat)(h1:c<=1)(h2:zs.length=o+n)(h3:ao zs)(h4:aB w' g zs)(h5:w.grownBy w' (some g))(h6:(c=0/\af zs+18446744073709551616^o*af bs=af z0)\/(c=1/\af z0<18446744073709551616^o*af bs)):
  uO w g o n z0 bs (.returned (.int .u64 (c:Int))) w':=⟨c,zs,rfl,h1,h2,h3,h4,h5,h6⟩
set_option maxRecDepth 100000 in
set_option maxHeartbeats 3200000 in
theorem uf(w:World)(g o n cap bb ob cb lb:Nat)(gb:Option Addr)(z0 bs:List Nat)(hz:z0.length=o+n)(hbl:bs.length=lb)(hlb:lb<=n)(hn:o+n<=1099511627776)
  (hZ:aB w g z0) (dz:ao z0) (hB:Rep w gb bb ob cb bs) (db:ao bs) (hne:0<bs.length->bb≠g):
  Calls Tryz.prog 66 #[.slice (some ⟨g,o,none⟩) n cap,.slice gb lb cb] w (uO w g o n z0 bs):=by
 have HNE:=hide hne
 clear hne
 go_enter Tryz.func66,Tryz.ntmps66
 go_wp2
 go_loopw [4,10] (fun c i wr=>∃(k cy:Nat) (zs:List Nat),k<=lb/\c=.int .u64 (cy:Int)/\i=.int .i64 (k:Int)/\cy<=1/\aB wr g zs/\Hid (kT z0 zs bs o k cy)/\Rep wr gb bb ob cb bs/\w.grownBy wr (some g))
  (fun _ i _=>lb-(intOf i).toNat)
 case atStart=>exact⟨0,0,z0,Nat.zero_le _,rfl,rfl,by omega,hZ,zN dz bs o,hB,bK _ _⟩
 case round=>
  obtain⟨k,cy,zs,hk,rfl,rfl,hcy,hBlk,hAt,hRb,hG⟩:=hrel
  have hzl:zs.length=o+n:=by rw[hAt.out.1];exact hz
  by_cases h1:k<lb
  ·obtain rfl:=hRb.head (by omega)
   obtain⟨b,hb⟩:∃ b:Nat,b=bs.getD k 0:=⟨_,rfl⟩
   have hb64:b<18446744073709551616:=by rw[hb];exact db k
   have cb:wr.cell? ⟨bb,ob+k,none⟩=some (.int .u64 (b:Int)):=by rw[hb];exact hRb.cell k (by omega)
   obtain⟨r,hr⟩:∃ r:Nat,r=zs.getD (o+k) 0:=⟨_,rfl⟩
   have cr:wr.cell? ⟨g,o+k,none⟩=some (.int .u64 (r:Int)):=by rw[hr];exact hBlk.cell (o+k) (by omega)
   have fr:=hBlk.frozen (o+k)
   have H2:=hide (sA hAt.out (by omega) hr hb hb64)
   have CA:=hide (fun w=>qp r b cy cy w (qo cy hcy))
   have hc2:=(ae H2).2.2.1
   generalize (r+18446744073709551616-b-cy)%18446744073709551616=d at *
   generalize (if r<b+cy then 1 else 0)=c2 at *
   clear hr hb
   go_wp2_with fail
   refine(ae CA _).mono ?_
   rintro e w1 ⟨rfl,rfl⟩
   go_wp2
   exact⟨⟨k+1,c2,_,by omega,rfl,by go_num,hc2,hBlk.set (o+k) d,H2,hRb.but (aj _ _ _ _) (ae HNE),az hG (aj _ _ _ _)⟩,by simp[intOf];omega⟩
  ·obtain rfl:k=lb:=by omega
   go_wp2
   go_loopw [4,7] (fun c i wi=>∃(q cy:Nat) (zs:List Nat),k<=q/\q<=n/\c=.int .u64 (cy:Int)/\i=.int .i64 (q:Int)/\cy<=1/\aB wi g zs/\Hid (kT z0 zs bs o q cy)/\w.grownBy wi (some g))
    (fun _ i _=>n-(intOf i).toNat)
   case atStart=>exact⟨k,cy,zs,Nat.le_refl _,hlb,rfl,rfl,hcy,hBlk,hAt,hG⟩
   case round=>
    obtain⟨q,cy,zs,hq1,hq2,rfl,rfl,hcy,hBlk,hAt,hG⟩:=hrel
    have hzl:zs.length=o+n:=by rw[hAt.out.1];exact hz
    by_cases h2:cy=0
    ·subst h2
     have hv:=JL hAt.out (by omega)
     have HV:=hide hv
     have HD:=hide hAt.out.2.1
     clear hv hAt
     by_cases h3:q<n
     ·go_wp2
      go_ret
      exact ug 0 zs (by omega) hzl (ae HD) hBlk hG (Or.inl ⟨rfl,ae HV⟩)
     ·go_wp2
      go_ret
      exact ug 0 zs (by omega) hzl (ae HD) hBlk hG (Or.inl ⟨rfl,ae HV⟩)
    ·obtain rfl:cy=1:=by omega
     by_cases h3:q<n
     ·obtain⟨r,hr⟩:∃ r:Nat,r=zs.getD (o+q) 0:=⟨_,rfl⟩
      have cr:wr.cell? ⟨g,o+q,none⟩=some (.int .u64 (r:Int)):=by rw[hr];exact hBlk.cell (o+q) (by omega)
      have fr:=hBlk.frozen (o+q)
      have H2:=hide (sA (b:=0) hAt.out (by omega) hr (by rw[dU (by omega)]) (by omega))
      have CA:=hide (fun w=>qp r 0 1 1 w (Or.inr ⟨by omega,rfl⟩))
      have hc2:=(ae H2).2.2.1
      generalize (r+18446744073709551616-0-1)%18446744073709551616=d at *
      generalize (if r<0+1 then 1 else 0)=c2 at *
      clear hr
      go_wp2_with fail
      refine(ae CA _).mono ?_
      rintro e w1 ⟨rfl,rfl⟩
      go_wp2
      exact⟨⟨q+1,c2,_,by omega,by omega,rfl,by go_num,hc2,hBlk.set (o+q) d,H2,az hG (aj _ _ _ _)⟩,by simp[intOf];omega⟩
     ·have hv:=Fj hAt.out (by omega) (by omega)
      have HV:=hide hv
      have HD:=hide hAt.out.2.1
      clear hv hAt
      go_wp2
      go_ret
      exact ug 1 zs (by omega) hzl (ae HD) hBlk hG (Or.inr ⟨rfl,ae HV⟩)
end Go.Proofs.YtgcnhfgpflncaaaGreatDoor
/- Norm,NI,Add,Sub of limb. -/
namespace Go.Proofs.YtgcnhfgpflncaaaGreatDoor
open Go.RowKit
theorem eb{w:World}{v:Value}{n:Nat}(h:aL w v n):∃ ga b o cap us,Rep w ga b o cap us/\cn us/\af us=n/\us.length<=1073741824/\Calls Tryz.prog 51 #[v] w fun e w'=>e=.returned (.slice ga us.length cap)/\w'=w:=by
 obtain⟨ga,b,o,cap,xs,rfl,hr,hd,hv,hl⟩:=h
 have hle:=bo xs xs.length
 exact⟨ga,b,o,cap,mX xs,hr.take _ hle,dB hd,by rw[cX];exact hv,by rw[aI];omega,qh w ga b o cap _ _ xs rfl (by omega) hr (aI xs)⟩
theorem iK(us:List Nat)(j:Nat):af (us++List.replicate j 0)=af us:=by rw[ck,(g8 j).2,Nat.mul_zero,Nat.add_zero]
theorem jR{us:List Nat}(h:ao us)(j:Nat):ao (us++List.replicate j 0):=fu h (g8 j).1
theorem FK{us vs:List Nat}{N:Nat}(h1:ao us)(h2:ao vs)(hN:N=max us.length vs.length+1):af us+af vs<18446744073709551616^N:=by
 have a:=fB (ak h1) (q:=N-1) (by omega)
 have b:=fB (ak h2) (q:=N-1) (by omega)
 have:=Lu a b
 rwa [show N-1+1=N from by omega]at this
theorem d6{B:Nat}{w:World}{g N:Nat}{zs:List Nat}(hl:zs.length=N)(hN:N<=1099511627776)(hg:B<=g)(hk:aB w g zs)(hd:ao zs):
  Calls Tryz.prog 51 #[.slice (some ⟨g,0,none⟩) N N] w fun e w'=>∃ v,e=.returned v/\ah B w v (af zs)/\w'=w:=by
 subst hl
 have hr:=hk.rep 0 zs.length zs.length (by omega) (Nat.le_refl _)
 rw[List.drop_zero,List.take_length]at hr
 refine(qh w _ g 0 _ _ _ zs rfl hN hr rfl).mono ?_
 rintro e w' ⟨rfl,rfl⟩
 exact⟨_,rfl,Il hg hk hd hN,rfl⟩
set_option maxRecDepth 100000 in
set_option maxHeartbeats 1600000 in
theorem jo(w:World)(u v:Value)(m n:Nat)(hu:aL w u m)(hv:aL w v n):
  Calls Tryz.prog 56 #[u,v] w fun e w'=>∃ r,e=.returned r/\ah w.heap.size w' r (m+n)/\Below w.heap.size w w':=by
 obtain⟨ga,ba,oa,ca,us,rA,cA,vA,lA,CA⟩:=eb hu
 obtain⟨gb,bb,ob,cb,vs,rB,cB,vB,lB,CB⟩:=eb hv
 obtain⟨N,hN⟩:∃ N,N=max us.length vs.length+1:=⟨_,rfl⟩
 have hroom:=FK cA.1 cB.1 hN
 have hbN:vs.length<=N:=by omega
 have hNb:N<=1073741825:=by omega
 have CA:=hide CA
 have CB:=hide CB
 have HN:=hide hN
 have hzl:(us++List.replicate (N-us.length) 0).length=0+N:=by simp;omega
 obtain⟨la,hla⟩:∃ la,la=us.length:=⟨_,rfl⟩
 obtain⟨lb,hlb⟩:∃ lb,lb=vs.length:=⟨_,rfl⟩
 rw[<-hla]at CA lA HN hzl
 rw[<-hlb]at CB lB HN hbN
 have HLA:=hide hla
 have HLB:=hide hlb
 have HR:=hide hroom
 clear hu hv hN hroom hla hlb
 go_enter Tryz.func56,Tryz.ntmps56
 go_wp2_with fail
 refine(ae CA).mono ?_
 rintro e w1 ⟨rfl,rfl⟩
 go_wp2_with fail
 refine(ae CB).mono ?_
 rintro e w2 ⟨rfl,rfl⟩
 clear CA CB
 go_wp2_with fail
 refine(su _ ga gb ba oa ca cb la lb N us (ae HLA).symm (by omega) (by omega) rA (ae HN)).mono ?_
 rintro e w3 ⟨rfl,k3,b3⟩
 go_wp2_with fail
 refine(mI _ w2.heap.size 0 N N bb ob cb lb gb _ vs hzl (ae HLB).symm hbN (by omega) k3 (jR cA.1 _) (rB.next b3) cB.1 (fun h=>by have:=rB.lt h;omega) (by rw[iK,Nat.pow_zero,Nat.one_mul,Nat.zero_add];exact ae HR)).mono ?_
 rintro e w4 ⟨rfl,zs,hl,hd,k4,hv4,g4⟩
 rw[iK,Nat.pow_zero,Nat.one_mul,vA,vB]at hv4
 have b4:=below_grown b3 g4 (Nat.le_refl _) b3.size
 have HV:=hide hv4
 clear hv4 g4 k3
 go_wp2_with fail
 refine(d6 (B:=w2.heap.size) (by omega) (by omega) (Nat.le_refl _) k4 hd).mono ?_
 rintro e w5 ⟨r,rfl,hr,rfl⟩
 rw[ae HV]at hr
 go_wp2
 go_ret
 exact⟨r,rfl,hr,b4⟩
def nZ(w:World)(m n:Nat)(e:Ending)(w':World):Prop:=Below w.heap.size w w'/\((n<=m/\∃ r,e=.returned (.tuple #[r,.bool true])/\ah w.heap.size w' r (m-n))\/(m<n/\e=.returned (.tuple #[.slice none 0 0,.bool false])))
theorem rZ{w w':World}{m n:Nat}(hb:Below w.heap.size w w')(h:m<n):nZ w m n (.returned (.tuple #[.slice none 0 0,.bool false])) w':=⟨hb,Or.inr ⟨h,rfl⟩⟩
theorem zv{w w':World}{m n:Nat}{r:Value}(hb:Below w.heap.size w w')(h:n<=m)(hr:ah w.heap.size w' r (m-n)):nZ w m n (.returned (.tuple #[r,.bool true])) w':=⟨hb,Or.inl ⟨h,r,rfl,hr⟩⟩
set_option maxRecDepth 100000 in
set_option maxHeartbeats 1600000 in
theorem gA(w:World)(u v:Value)(m n:Nat)(hu:aL w u m)(hv:aL w v n):
  Calls Tryz.prog 45 #[u,v] w (nZ w m n):=by
 obtain⟨ga,ba,oa,ca,us,rA,cA,vA,lA,CA⟩:=eb hu
 obtain⟨gb,bb,ob,cb,vs,rB,cB,vB,lB,CB⟩:=eb hv
 have hlt:us.length<vs.length->m<n:=fun h=>by have:=kC cA.1 cB h;omega
 have CA:=hide CA
 have CB:=hide CB
 have HLT:=hide hlt
 obtain⟨la,hla⟩:∃ la,la=us.length:=⟨_,rfl⟩
 obtain⟨lb,hlb⟩:∃ lb,lb=vs.length:=⟨_,rfl⟩
 rw[<-hla]at CA lA HLT
 rw[<-hlb]at CB lB HLT
 have HLA:=hide hla
 have HLB:=hide hlb
 clear hu hv hlt hla hlb
 go_enter Tryz.func45,Tryz.ntmps45
 go_wp2_with fail
 refine(ae CA).mono ?_
 rintro e w1 ⟨rfl,rfl⟩
 go_wp2_with fail
 refine(ae CB).mono ?_
 rintro e w2 ⟨rfl,rfl⟩
 clear CA CB
 by_cases h1:la<lb
 ·go_wp2
  go_ret2
  exact rZ (Below.refl _ _) (ae HLT h1)
 ·go_wp2_with fail
  refine(fV _ ga ba oa ca la us (ae HLA).symm (by omega) rA).mono ?_
  rintro e w3 ⟨rfl,k3,b3⟩
  go_wp2_with fail
  refine(uf _ w2.heap.size 0 la la bb ob cb lb gb us vs (by rw[<-ae HLA];omega) (ae HLB).symm (by omega) (by omega) k3 cA.1 (rB.next b3) cB.1 (fun h=>by have:=rB.lt h;omega)).mono ?_
  rintro e w4 ⟨c,zs,rfl,hc1,hl,hd,k4,g4,hres⟩
  rw[Nat.pow_zero,Nat.one_mul,vA,vB]at hres
  have b4:=below_grown b3 g4 (Nat.le_refl _) b3.size
  clear g4 k3
  rcases hres with⟨rfl,hv4⟩|⟨rfl,hv4⟩
  ·have HV:=hide hv4
   clear hv4
   go_wp2_with fail
   refine(d6 (B:=w2.heap.size) (by omega) (by omega) (Nat.le_refl _) k4 hd).mono ?_
   rintro e w5 ⟨r,rfl,hr,rfl⟩
   have hle:n<=m:=by have:=ae HV;omega
   have he:af zs=m-n:=by have:=ae HV;omega
   rw[he]at hr
   clear he
   go_wp2
   go_ret2
   exact zv b4 hle hr
  ·go_wp2
   go_ret2
   exact rZ b4 hv4
set_option maxRecDepth 100000 in
set_option maxHeartbeats 1600000 in
theorem dW(w:World)(u:Value)(m:Nat)(hu:aL w u m):
  Calls Tryz.prog 41 #[u] w fun e w'=>∃ r,e=.returned r/\ah w.heap.size w' r m/\Below w.heap.size w w':=by
 obtain⟨ga,ba,oa,ca,us,rA,cA,vA,lA,CA⟩:=eb hu
 have CA:=hide CA
 obtain⟨la,hla⟩:∃ la,la=us.length:=⟨_,rfl⟩
 rw[<-hla]at CA lA
 have HLA:=hide hla
 clear hu hla
 go_enter Tryz.func41,Tryz.ntmps41
 go_wp2_with fail
 refine(ae CA).mono ?_
 rintro e w1 ⟨rfl,rfl⟩
 clear CA
 go_wp2_with fail
 refine(fV _ ga ba oa ca la us (ae HLA).symm (by omega) rA).mono ?_
 rintro e w3 ⟨rfl,k3,b3⟩
 go_wp2
 go_ret
 refine⟨_,rfl,⟨us,cA,vA,Or.inr ⟨w1.heap.size,[],Nat.le_refl _,?_,by rw[List.append_nil];exact k3,by rw[<-ae HLA];simp;omega⟩⟩,b3⟩
 rw[List.append_nil, <-ae HLA]
 rfl
set_option maxRecDepth 100000 in
set_option maxHeartbeats 1600000 in
theorem kK(w:World)(x:Nat)(hx:x<18446744073709551616):
  Calls Tryz.prog 34 #[.int .u64 (x:Int)] w fun e w'=>∃ r,e=.returned r/\ah w.heap.size w' r x/\Below w.heap.size w w':=by
 have hk:aB (w.alloc (.cells #[.int .u64 (x:Int)] 41)) w.heap.size [x]:=heap_alloc_new w _
 have hb:Below w.heap.size w (w.alloc (.cells #[.int .u64 (x:Int)] 41)):=(Below.refl _ _).alloc (Nat.le_refl _) _
 have CT:=hide (d6 (N:=1) rfl (by omega) (Nat.le_refl _) hk (xX hx))
 have HB:=hide hb
 rw[qu]at CT
 clear hk hb
 go_enter Tryz.func34,Tryz.ntmps34
 go_wp2_with fail
 refine(ae CT).mono ?_
 rintro e w3 ⟨r,rfl,hr,rfl⟩
 go_wp2
 go_ret
 exact⟨r,rfl,hr,ae HB⟩
end Go.Proofs.YtgcnhfgpflncaaaGreatDoor
/- Plain mathematics of products by hand. Nothing of any program here. -/
namespace Go.Proofs.YtgcnhfgpflncaaaGreatDoor
def JO(z0 zs bs:List Nat)(y o k c:Nat):Prop:=
 zs.length=z0.length/\ao zs/\c<18446744073709551616/\af zs+18446744073709551616^(o+k)*c=af z0+18446744073709551616^o*(y*af (bs.take k))/\
  ∀ j,o+k<=j->zs.getD j 0=z0.getD j 0
theorem LU{z0:List Nat}(h:ao z0)(bs:List Nat)(y o:Nat):JO z0 z0 bs y o 0 0:=⟨rfl,h,by omega,by simp[af],fun _ _=>rfl⟩
theorem LS{b y c r h0 l0 l1 c1 h1 d c2 c3:Nat}(hb:b<18446744073709551616)(hy:y<18446744073709551616)(hc:c<18446744073709551616)(hr:r<18446744073709551616)
  (e0:h0=b*y/18446744073709551616) (e1:l0=b*y%18446744073709551616) (e2:l1=(l0+c+0)%18446744073709551616) (e3:c1=(l0+c+0)/18446744073709551616) (e4:h1=h0+c1)
  (e5:d=(r+l1+0)%18446744073709551616) (e6:c2=(r+l1+0)/18446744073709551616) (e7:c3=h1+c2):
  h1<18446744073709551616/\c3<18446744073709551616/\d<18446744073709551616/\d+18446744073709551616*c3=r+b*y+c:=by
 have hp:b*y<=18446744073709551615*18446744073709551615:=Nat.mul_le_mul (by omega) (by omega)
 generalize b*y=p at *
 omega
theorem OP{z0 zs bs:List Nat}{y o k c r b d c3:Nat}(h:JO z0 zs bs y o k c)(hk:o+k<zs.length)(hr:r=zs.getD (o+k) 0)(hb:b=bs.getD k 0)
  (hd:d<18446744073709551616) (hc3:c3<18446744073709551616) (he:d+18446744073709551616*c3=r+b*y+c):JO z0 (zs.set (o+k) d) bs y o (k+1) c3:=by
 obtain⟨h1,h2,h3,h4,h5⟩:=h
 refine⟨by simpa using h1,bG h2 hk hd,hc3,?_,fun j hj=>?_⟩
 ·have hs:=cj zs (o+k) d hk
  rw[<-hr]at hs
  rw[ay, <-hb,Nat.mul_add y,Nat.mul_left_comm y,Nat.mul_add, <-Nat.mul_assoc (18446744073709551616^o) (18446744073709551616^k), <-Nat.pow_add, <-Nat.add_assoc o k 1,Nat.pow_succ,Nat.mul_assoc (18446744073709551616^(o+k))]
  have e:18446744073709551616^(o+k)*d+18446744073709551616^(o+k)*(18446744073709551616*c3)=18446744073709551616^(o+k)*r+18446744073709551616^(o+k)*(y*b)+18446744073709551616^(o+k)*c:=by
   rw[<-Nat.mul_add,he,Nat.mul_add,Nat.mul_add,Nat.mul_comm b y]
  omega
 ·rw[<-h5 j (by omega)]
  simp[List.getD_eq_getElem?_getD,show ¬o+k=j by omega]
def mG(zs:List Nat)(k:Nat):Prop:=∀ j,k<=j->zs.getD j 0=0
theorem ja(n k:Nat):mG (List.replicate n 0) k:=fun j _=>by simp[List.getD_eq_getElem?_getD,List.getElem?_replicate];split<;>rfl
theorem fL:∀ n,af (List.replicate n 0)=0
 |0=>rfl
 |n+1=>by rw[List.replicate_succ,af,fL n]
theorem fJ(n:Nat):ao (List.replicate n 0):=fun j=>by rw[ja n 0 j (by omega)];omega
theorem Ns{z0 zs bs:List Nat}{y o k c:Nat}(h:JO z0 zs bs y o k c)(hk:bs.length<=k)(hz:mG z0 (o+k))(ho:o+k<zs.length):
  (zs.set (o+k) c).length=z0.length/\ao (zs.set (o+k) c)/\af (zs.set (o+k) c)=af z0+18446744073709551616^o*(y*af bs)/\mG (zs.set (o+k) c) (o+k+1):=by
 obtain⟨h1,h2,h3,h4,h5⟩:=h
 refine⟨by simpa using h1,bG h2 ho h3,?_,fun j hj=>?_⟩
 ·have hs:=cj zs (o+k) c ho
  rw[h5 _ (Nat.le_refl _),hz _ (Nat.le_refl _),Nat.mul_zero]at hs
  rw[aK _ _ hk]at h4
  omega
 ·have:(zs.set (o+k) c).getD j 0=zs.getD j 0:=by simp[List.getD_eq_getElem?_getD,show ¬o+k=j by omega]
  rw[this,h5 j (by omega),hz j (by omega)]
def Bf(xs bs zs:List Nat)(N k:Nat):Prop:=zs.length=N/\ao zs/\af zs=af xs*af (bs.take k)/\mG zs (k+xs.length)
theorem KY(xs bs:List Nat)(N:Nat):Bf xs bs (List.replicate N 0) N 0:=⟨by simp,fJ _,by rw[fL];simp[af],ja _ _⟩
theorem Ox{xs bs z0 zs:List Nat}{N k c y:Nat}(h:Bf xs bs z0 N k)(hs:JO z0 zs xs y k xs.length c)(hy:y=bs.getD k 0)(hk:k+xs.length<N):Bf xs bs (zs.set (k+xs.length) c) N (k+1):=by
 obtain⟨h1,h2,h3,h4⟩:=h
 obtain⟨t1,t2,t3,t4⟩:=Ns hs (Nat.le_refl _) h4 (by rw[hs.1,h1];exact hk)
 refine⟨by rw[t1,h1],t2,?_,fun j hj=>t4 j (by omega)⟩
 rw[t3,h3,ay, <-hy,Nat.mul_add,Nat.mul_left_comm (af xs),Nat.mul_comm (af xs) y]
def Kp(xs:List Nat):Nat->Nat
 |0=>0
 |k+1=>Kp xs k+18446744073709551616^(2*k+1)*(xs.getD k 0*af (xs.drop (k+1)))
def OU(xs:List Nat):Nat->Nat
 |0=>0
 |k+1=>OU xs k+18446744073709551616^(2*k)*(xs.getD k 0*xs.getD k 0)
theorem kL(xs:List Nat)(k:Nat):af (xs.drop k)=xs.getD k 0+18446744073709551616*af (xs.drop (k+1)):=by
 by_cases h:k<xs.length
 ·rw[List.drop_eq_getElem_cons h,af,getD_lt h]
 ·rw[List.drop_eq_nil_of_le (by omega),List.drop_eq_nil_of_le (by omega),dU (by omega)];simp[af]
theorem Md(p B x v:Nat):p*((x+B*v)*(x+B*v))=p*(x*x)+p*B*(x*v)+p*B*(x*v)+p*B*B*(v*v):=by
 have e:(x+B*v)*(x+B*v)=x*x+B*(x*v)+B*(x*v)+B*B*(v*v):=by
  rw[Nat.mul_add,Nat.add_mul,Nat.add_mul,Nat.mul_comm (B*v) x,Nat.mul_left_comm x B v,Nat.mul_assoc B v,Nat.mul_left_comm v B v, <-Nat.mul_assoc B B]
  omega
 rw[e,Nat.mul_add,Nat.mul_add,Nat.mul_add, <-Nat.mul_assoc p B (x*v), <-Nat.mul_assoc p (B*B), <-Nat.mul_assoc p B B]
theorem Jg(c s t1 t2 t3:Nat):c+t1+(c+t1)+(s+t3)+t2=c+c+s+(t3+t1+t1+t2):=by omega
theorem pY(xs:List Nat):∀ k,Kp xs k+Kp xs k+OU xs k+18446744073709551616^(2*k)*(af (xs.drop k)*af (xs.drop k))=af xs*af xs
 |0=>by simp[Kp,OU]
 |k+1=>by
  rw[<-pY xs k,kL xs k,Kp,OU,Md,show 2*(k+1)=2*k+1+1 from by omega,Nat.pow_succ,Nat.pow_succ]
  exact Jg _ _ _ _ _
theorem EK(xs:List Nat)(n:Nat)(h:xs.length<=n):Kp xs n+Kp xs n+OU xs n=af xs*af xs:=by
 have:=pY xs n
 rw[List.drop_eq_nil_of_le h]at this
 simpa [af]using this
def Be(xs zs:List Nat)(n k:Nat):Prop:=zs.length=2*n/\ao zs/\af zs=Kp xs k/\mG zs (k+n)
theorem J4(xs:List Nat)(n:Nat):Be xs (List.replicate (2*n) 0) n 0:=⟨by simp,fJ _,by rw[fL];rfl,ja _ _⟩
theorem NY{xs z0 zs:List Nat}{n k c y:Nat}(h:Be xs z0 n k)(hs:JO z0 zs (xs.drop (k+1)) y (2*k+1) (n-(k+1)) c)(hy:y=xs.getD k 0)(hl:xs.length=n)(hk:k<n):Be xs (zs.set (k+n) c) n (k+1):=by
 obtain⟨h1,h2,h3,h4⟩:=h
 have e:2*k+1+(n-(k+1))=k+n:=by omega
 obtain⟨t1,t2,t3,t4⟩:=Ns hs (by simp;omega) (by rw[e];exact h4) (by rw[hs.1,h1];omega)
 rw[e]at t1 t2 t3 t4
 refine⟨by rw[t1,h1],t2,?_,fun j hj=>t4 j (by omega)⟩
 rw[t3,h3,Kp, <-hy]
def Bg(xs zs:List Nat)(n k:Nat):Prop:=zs.length=2*n/\ao zs/\af zs=OU xs k/\mG zs (2*k)
theorem Lx(xs:List Nat)(n:Nat):Bg xs (List.replicate (2*n) 0) n 0:=⟨by simp,fJ _,by rw[fL];rfl,ja _ _⟩
theorem OH{xs zs:List Nat}{n k x hi lo:Nat}(h:Bg xs zs n k)(hx:x=xs.getD k 0)(hk:k<n)(hh:hi<18446744073709551616)(hl:lo<18446744073709551616)(he:18446744073709551616*hi+lo=x*x):
  Bg xs ((zs.set (2*k+1) hi).set (2*k) lo) n (k+1):=by
 obtain⟨h1,h2,h3,h4⟩:=h
 have d1:=bG h2 (k:=2*k+1) (by omega) hh
 refine⟨by simpa using h1,bG d1 (by simp;omega) hl,?_,fun j hj=>?_⟩
 ·have s1:=cj zs (2*k+1) hi (by omega)
  rw[h4 _ (by omega),Nat.mul_zero]at s1
  have s2:=cj (zs.set (2*k+1) hi) (2*k) lo (by simp;omega)
  have:(zs.set (2*k+1) hi).getD (2*k) 0=zs.getD (2*k) 0:=by simp[List.getD_eq_getElem?_getD]
  rw[this,h4 _ (by omega),Nat.mul_zero]at s2
  rw[OU, <-hx, <-he,Nat.mul_add, <-Nat.mul_assoc, <-Nat.pow_succ]
  show _=_+(18446744073709551616^(2*k+1)*hi+_)
  omega
 ·have:((zs.set (2*k+1) hi).set (2*k) lo).getD j 0=zs.getD j 0:=by simp[List.getD_eq_getElem?_getD,show ¬2*k+1=j by omega,show ¬2*k=j by omega]
  rw[this,h4 j (by omega)]
end Go.Proofs.YtgcnhfgpflncaaaGreatDoor
/- addTimes of school:a row times a word is added to a piece of another. -/
namespace Go.Proofs.YtgcnhfgpflncaaaGreatDoor
open Go.RowKit
set_option maxRecDepth 100000 in
set_option maxHeartbeats 3200000 in
theorem lK(w:World)(g o n cap bb ob cb lb y:Nat)(gb:Option Addr)(z0 bs:List Nat)(hz:z0.length=o+n)(hbl:bs.length=lb)(hlb:lb<=n)(hn:o+n<=1099511627776)(hy:y<18446744073709551616)
  (hZ:aB w g z0) (dz:ao z0) (hB:Rep w gb bb ob cb bs) (db:ao bs) (hne:0<bs.length->bb≠g):
  Calls Tryz.prog 159 #[.slice (some ⟨g,o,none⟩) n cap,.slice gb lb cb,.int .u64 (y:Int)] w fun e w'=>∃(c:Nat) (zs:List Nat),e=.returned (.int .u64 (c:Int))/\JO z0 zs bs y o lb c/\aB w' g zs/\w.grownBy w' (some g):=by
 have HNE:=hide hne
 clear hne
 go_enter Tryz.func159,Tryz.ntmps159
 go_wp2
 go_loopw [6,14] (fun c i wr=>∃(k cy:Nat) (zs:List Nat),k<=lb/\c=.int .u64 (cy:Int)/\i=.int .i64 (k:Int)/\cy<18446744073709551616/\aB wr g zs/\Hid (JO z0 zs bs y o k cy)/\Rep wr gb bb ob cb bs/\w.grownBy wr (some g))
  (fun _ i _=>lb-(intOf i).toNat)
 case atStart=>exact⟨0,0,z0,Nat.zero_le _,rfl,rfl,by omega,hZ,LU dz bs y o,hB,bK _ _⟩
 case round=>
  obtain⟨k,cy,zs,hk,rfl,rfl,hcy,hBlk,hAt,hRb,hG⟩:=hrel
  have hzl:zs.length=o+n:=by rw[hAt.out.1];exact hz
  by_cases h1:k<lb
  ·obtain rfl:=hRb.head (by omega)
   obtain⟨b,hb⟩:∃ b:Nat,b=bs.getD k 0:=⟨_,rfl⟩
   have hb64:b<18446744073709551616:=by rw[hb];exact db k
   have cb:wr.cell? ⟨bb,ob+k,none⟩=some (.int .u64 (b:Int)):=by rw[hb];exact hRb.cell k (by omega)
   obtain⟨r,hr⟩:∃ r:Nat,r=zs.getD (o+k) 0:=⟨_,rfl⟩
   have hr64:r<18446744073709551616:=by rw[hr];exact hAt.out.2.1 _
   have cr:wr.cell? ⟨g,o+k,none⟩=some (.int .u64 (r:Int)):=by rw[hr];exact hBlk.cell (o+k) (by omega)
   have fr:=hBlk.frozen (o+k)
   obtain⟨h0,e0⟩:∃ h0,h0=b*y/18446744073709551616:=⟨_,rfl⟩
   obtain⟨l0,e1⟩:∃ l0,l0=b*y%18446744073709551616:=⟨_,rfl⟩
   obtain⟨l1,e2⟩:∃ l1,l1=(l0+cy+0)%18446744073709551616:=⟨_,rfl⟩
   obtain⟨c1,e3⟩:∃ c1,c1=(l0+cy+0)/18446744073709551616:=⟨_,rfl⟩
   obtain⟨h1',e4⟩:∃ h1',h1'=h0+c1:=⟨_,rfl⟩
   obtain⟨d,e5⟩:∃ d,d=(r+l1+0)%18446744073709551616:=⟨_,rfl⟩
   obtain⟨c2,e6⟩:∃ c2,c2=(r+l1+0)/18446744073709551616:=⟨_,rfl⟩
   obtain⟨c3,e7⟩:∃ c3,c3=h1'+c2:=⟨_,rfl⟩
   obtain⟨q1,q2,q3,q4⟩:=LS hb64 hy hcy hr64 e0 e1 e2 e3 e4 e5 e6 e7
   have H2:=hide (OP hAt.out (by omega) hr hb q3 q2 q4)
   have CM:=hide (fun w=>fw b y w hb64 hy)
   have CA:=hide (fun w=>ef l0 cy 0 0 w (Or.inl ⟨rfl,rfl⟩))
   have CB:=hide (fun w=>ef r l1 0 0 w (Or.inl ⟨rfl,rfl⟩))
   rw[<-e0, <-e1]at CM
   rw[<-e2, <-e3]at CA
   rw[<-e5, <-e6]at CB
   have E4:(h0:Int)+(c1:Int)=(h1':Int):=by omega
   have E7:(h1':Int)+(c2:Int)=(c3:Int):=by omega
   clear hr hb e0 e1 e2 e3 e4 e5 e6 e7 q4
   go_wp2_with fail
   refine(ae CM _).mono ?_
   rintro e w1 ⟨rfl,rfl⟩
   go_wp2_with fail
   refine(ae CA _).mono ?_
   rintro e w2 ⟨rfl,rfl⟩
   go_wp2_with fail
   refine(ae CB _).mono ?_
   rintro e w3 ⟨rfl,rfl⟩
   go_wp2
   exact⟨⟨k+1,c3,_,by omega,by first|rfl|exact congrArg (Value.int .u64) E7,by go_num,q2,hBlk.set (o+k) d,H2,hRb.but (aj _ _ _ _) (ae HNE),az hG (aj _ _ _ _)⟩,by simp[intOf];omega⟩
  ·obtain rfl:k=lb:=by omega
   go_wp2
   go_ret
   exact⟨cy,zs,rfl,hAt.out,hBlk,hG⟩
end Go.Proofs.YtgcnhfgpflncaaaGreatDoor
/- crossProducts and squares of school. -/
namespace Go.Proofs.YtgcnhfgpflncaaaGreatDoor
open Go.RowKit
theorem fi(w:World)(n:Nat):aB (w.alloc (.cells (aF n).toArray 41)) w.heap.size (List.replicate n 0):=heap_alloc_new w _
theorem Rep.drop{w:World}{ga:Option Addr}{b o cap:Nat}{xs:List Nat}(h:Rep w ga b o cap xs)(s:Nat)(hs:s<=xs.length):Rep w (some ⟨b,o+s,none⟩) b (o+s) (cap-s) (xs.drop s):=
 ⟨fun _=>rfl,by have:=h.room;simp;omega,fun j hj=>by
  have hj':s+j<xs.length:=by simp at hj;omega
  have:=h.cell (s+j) hj'
  rw[Nat.add_assoc,this]
  simp[List.getD_eq_getElem?_getD]⟩
set_option maxRecDepth 100000 in
set_option maxHeartbeats 3200000 in
theorem Bz(w:World)(ga:Option Addr)(b o cap n:Nat)(xs:List Nat)(hl:xs.length=n)(hn:n<=268435456)(hR:Rep w ga b o cap xs)(dx:ao xs):
  Calls Tryz.prog 128 #[.slice ga n cap] w fun e w'=>∃ zs,e=.returned (.slice (some ⟨w.heap.size,0,none⟩) (2*n) (2*n))/\Be xs zs n n/\aB w' w.heap.size zs/\Below w.heap.size w w':=by
 have hst:=hide (J4 xs n)
 have hk0:=hide (fi w (2*n))
 obtain⟨N,hN⟩:∃ N,N=2*n:=⟨_,rfl⟩
 have hN':2*(n:Int)=(N:Int):=by omega
 rw[<-hN]at hst hk0 ⊢
 have hmk:=bX N N (2*(n:Int)) hN' rfl (by omega)
 have HB0:=hide ((Below.refl w.heap.size w).alloc (Nat.le_refl _) (.cells (aF N).toArray 41))
 have hcap:=hR.room
 rw[hl]at hcap
 have hn2:2*n<=536870912:=by omega
 have HN:=hide hN
 clear hN hN' hn
 go_enter Tryz.func128,Tryz.ntmps128
 go_wp2
 go_loopw [12] (fun i wr=>∃(k:Nat) (zs:List Nat),k<=n/\i=.int .i64 (k:Int)/\aB wr w.heap.size zs/\Hid (Be xs zs n k)/\Below w.heap.size w wr)
  (fun i _=>n-(intOf i).toNat)
 case atStart=>exact⟨0,_,Nat.zero_le _,rfl,ae hk0,hst,ae HB0⟩
 case round=>
  obtain⟨k,z0,hk,rfl,hBlk,hAt,hnx⟩:=hrel
  have hzl:z0.length=2*n:=hAt.out.1
  by_cases h1:k<n
  ·obtain rfl:=hR.head (by omega)
   obtain⟨y,hy⟩:∃ y:Nat,y=xs.getD k 0:=⟨_,rfl⟩
   have hy64:y<18446744073709551616:=by rw[hy];exact dx k
   have hRw:=hR.next hnx
   have cy:wr.cell? ⟨b,o+k,none⟩=some (.int .u64 (y:Int)):=by rw[hy];exact hRw.cell k (by omega)
   obtain⟨p0,hp0⟩:∃ p0,p0=2*k:=⟨_,rfl⟩
   obtain⟨p,hp⟩:∃ p,p=2*k+1:=⟨_,rfl⟩
   obtain⟨s,hs⟩:∃ s,s=k+1:=⟨_,rfl⟩
   obtain⟨M,hM⟩:∃ M,N=p+M:=⟨N-p,by have:=ae HN;omega⟩
   obtain⟨l,hlb⟩:∃ l,l=n-(k+1):=⟨_,rfl⟩
   obtain⟨cc,hcc⟩:∃ cc,cc=cap-s:=⟨_,rfl⟩
   have hRd:Rep w (some ⟨b,o+s,none⟩) b (o+s) cc (xs.drop s):=by rw[hcc];exact hR.drop s (by omega)
   have hld:(xs.drop s).length=l:=by simp;omega
   have hne:0<(xs.drop s).length->b≠w.heap.size:=fun h=>by have:=hR.lt (by omega);omega
   have CA:=hide (fun gb cx W (hB:aB W w.heap.size z0) (hr:Rep W gb b (o+s) cx (xs.drop s))=>lK W w.heap.size p M M b (o+s) cx l y gb z0 (xs.drop s) (by rw[hzl, <-ae HN,hM]) hld (by have:=ae HN;omega) (by have:=ae HN;omega) hy64 hB hAt.out.2.1 hr (aU dx s) hne)
   have HRD:=hide hRd
   have HLD:=hide hld
   have e1:2*(k:Int)=(p0:Int):=by omega
   have e2:(p0:Int)+1=(p:Int):=by omega
   have e3:(k:Int)+1=(s:Int):=by omega
   have hw0:IntKind.i64.wrap (p0:Int)=(p0:Int):=by rw[IntKind.wrap_i64];omega
   have hw1:IntKind.i64.wrap (p:Int)=(p:Int):=by rw[IntKind.wrap_i64];omega
   have hw2:IntKind.i64.wrap (s:Int)=(s:Int):=by rw[IntKind.wrap_i64];omega
   have i1:0<=(p:Int)/\(p:Int)<=(N:Int):=by have:=ae HN;omega
   have i2:0<=(s:Int)/\(s:Int)<=(n:Int):=by omega
   have i3:p<=N:=by omega
   have i4:N-p=M:=by omega
   have i5:¬N=p:=by have:=ae HN;omega
   have i6:s<=n:=by omega
   have i7:n-s=l:=by omega
   have i8:cap-s=cc:=by omega
   obtain⟨t,ht⟩:∃ t,t=k+n:=⟨_,rfl⟩
   have e4:(k:Int)+(n:Int)=(t:Int):=by omega
   have hw3:IntKind.i64.wrap (t:Int)=(t:Int):=by rw[IntKind.wrap_i64];omega
   have i9:0<=(t:Int)/\(t:Int)<(N:Int):=by have:=ae HN;omega
   have i10:t<N:=by omega
   have hzN:z0.length=N:=by rw[hzl];exact(ae HN).symm
   have HZN:=hide hzN
   have HT:=hide ht
   have HM:=hide hM
   have HY:=hide hy
   have HS:=hide hs
   have HP:=hide hp
   have HLB:=hide hlb
   clear hzN hzl ht hy hp0 hp hs hM hlb hcc hne hld hRd hmk hk0 hst HB0 hRw
   have HNIL:Hid (cap=s->∀ W gb cx,Rep W gb b (o+s) cx (xs.drop s)):=fun h W gb cx=>by rw[List.drop_eq_nil_of_le (by omega)];exact Rep.nil _ _ _ _ _
   have HC:Hid (∀ c zs,JO z0 zs (xs.drop s) y p l c->Be xs (zs.set t c) n s):=fun c zs h=>by
    have hh:=HS.out;have hh2:=HP.out;have hh3:=HLB.out;have hh4:=HT.out
    subst hh hh2 hh3 hh4
    exact NY hAt.out h HY.out hl h1
   have hsz:=hnx.size
   by_cases hcs:cap=s
   ·have HNIL2:=hide (HNIL.out hcs)
    clear i8 HNIL
    obtain rfl:=hcs.symm
    go_wp2
    go_region_with (go_at_call 159;refine(ae CA _ _ _ ?_ ?_).mono ?_;exact hBlk;exact ae HNIL2 _ _ _;rintro e w4 ⟨c,zs,rfl,hS,k4,g4⟩;have c4:=k4.cell t (by rw[hS.1,ae HZN];omega);have f4:=k4.frozen t;have hS:=hide hS)
    go_wp2
    go_roundw
    case rel=>exact⟨s,zs.set t c,by omega,rfl,k4.set t c,ae HC _ _ hS.out,(below_grown hnx.drew g4 (Nat.le_refl _) hsz).setCell (Nat.le_refl _) _⟩
    case measure=>simp[intOf];omega
   ·go_wp2
    go_region_with (go_at_call 159;refine(ae CA _ _ _ ?_ ?_).mono ?_;exact hBlk;exact(ae HRD).next hnx.drew;rintro e w4 ⟨c,zs,rfl,hS,k4,g4⟩;have c4:=k4.cell t (by rw[hS.1,ae HZN];omega);have f4:=k4.frozen t;have hS:=hide hS)
    go_wp2
    exact⟨⟨s,zs.set t c,by omega,rfl,k4.set t c,ae HC _ _ hS.out,(below_grown hnx.drew g4 (Nat.le_refl _) hsz).setCell (Nat.le_refl _) _⟩,by simp[intOf];omega⟩
  ·obtain rfl:k=n:=by omega
   go_wp2
   go_ret
   exact⟨z0,rfl,hAt.out,hBlk,hnx⟩
end Go.Proofs.YtgcnhfgpflncaaaGreatDoor
/- squares of school. -/
namespace Go.Proofs.YtgcnhfgpflncaaaGreatDoor
open Go.RowKit
set_option maxRecDepth 100000 in
set_option maxHeartbeats 3200000 in
theorem xH(w:World)(ga:Option Addr)(b o cap n:Nat)(xs:List Nat)(hl:xs.length=n)(hn:n<=268435456)(hR:Rep w ga b o cap xs)(dx:ao xs):
  Calls Tryz.prog 129 #[.slice ga n cap] w fun e w'=>∃ zs,e=.returned (.slice (some ⟨w.heap.size,0,none⟩) (2*n) (2*n))/\Bg xs zs n n/\aB w' w.heap.size zs/\Below w.heap.size w w':=by
 have hst:=hide (Lx xs n)
 have hk0:=hide (fi w (2*n))
 obtain⟨N,hN⟩:∃ N,N=2*n:=⟨_,rfl⟩
 have hN':2*(n:Int)=(N:Int):=by omega
 rw[<-hN]at hst hk0 ⊢
 have hmk:=bX N N (2*(n:Int)) hN' rfl (by omega)
 have HB0:=hide ((Below.refl w.heap.size w).alloc (Nat.le_refl _) (.cells (aF N).toArray 41))
 have hn2:2*n<=536870912:=by omega
 have HN:=hide hN
 clear hN hN' hn
 go_enter Tryz.func129,Tryz.ntmps129
 go_wp2
 go_loopw [12] (fun i wr=>∃(k:Nat) (zs:List Nat),k<=n/\i=.int .i64 (k:Int)/\aB wr w.heap.size zs/\Hid (Bg xs zs n k)/\Below w.heap.size w wr)
  (fun i _=>n-(intOf i).toNat)
 case atStart=>exact⟨0,_,Nat.zero_le _,rfl,ae hk0,hst,ae HB0⟩
 case round=>
  obtain⟨k,z0,hk,rfl,hBlk,hAt,hnx⟩:=hrel
  have hzl:z0.length=2*n:=hAt.out.1
  by_cases h1:k<n
  ·obtain rfl:=hR.head (by omega)
   obtain⟨y,hy⟩:∃ y:Nat,y=xs.getD k 0:=⟨_,rfl⟩
   have hy64:y<18446744073709551616:=by rw[hy];exact dx k
   have hRw:=hR.next hnx
   have cy:wr.cell? ⟨b,o+k,none⟩=some (.int .u64 (y:Int)):=by rw[hy];exact hRw.cell k (by omega)
   obtain⟨p0,hp0⟩:∃ p0,p0=2*k:=⟨_,rfl⟩
   obtain⟨p,hp⟩:∃ p,p=2*k+1:=⟨_,rfl⟩
   have e1:2*(k:Int)=(p0:Int):=by omega
   have e2:(p0:Int)+1=(p:Int):=by omega
   have hw0:IntKind.i64.wrap (p0:Int)=(p0:Int):=by rw[IntKind.wrap_i64];omega
   have hw1:IntKind.i64.wrap (p:Int)=(p:Int):=by rw[IntKind.wrap_i64];omega
   have i1:0<=(p:Int)/\(p:Int)<(N:Int):=by have:=ae HN;omega
   have i2:0<=(p0:Int)/\(p0:Int)<(N:Int):=by have:=ae HN;omega
   have i3:p<N:=by omega
   have i4:p0<N:=by omega
   have i5:¬p=p0:=by omega
   have hzN:z0.length=N:=by rw[hzl];exact(ae HN).symm
   have c1:=hBlk.cell p (by omega)
   have c0:=hBlk.cell p0 (by omega)
   have f1:=hBlk.frozen p
   have f0:=hBlk.frozen p0
   obtain⟨hi,hh⟩:∃ hi,hi=y*y/18446744073709551616:=⟨_,rfl⟩
   obtain⟨lo,hlo⟩:∃ lo,lo=y*y%18446744073709551616:=⟨_,rfl⟩
   have CM:=hide (fun w=>fw y y w hy64 hy64)
   rw[<-hh, <-hlo]at CM
   have hp2:18446744073709551616*hi+lo=y*y:=by rw[hh,hlo];exact Nat.div_add_mod _ _
   have hlo64:lo<18446744073709551616:=by rw[hlo];exact Nat.mod_lt _ (by omega)
   have hhi64:hi<18446744073709551616:=by rw[hh];exact Nat.div_lt_of_lt_mul (Nat.mul_lt_mul'' hy64 hy64)
   have HC:Hid (Bg xs ((z0.set p hi).set p0 lo) n (k+1)):=by
    subst hp hp0
    exact OH hAt.out hy h1 hhi64 hlo64 hp2
   clear hy hp0 hp hzN hzl hmk hk0 hst HB0 hRw hh hlo hp2
   go_wp2_with fail
   refine(ae CM _).mono ?_
   rintro e w1 ⟨rfl,rfl⟩
   go_wp2
   exact⟨⟨k+1,(z0.set p hi).set p0 lo,by omega,by go_num,(hBlk.set p hi).set p0 lo,HC,(hnx.setCell (Nat.le_refl _) _).setCell (Nat.le_refl _) _⟩,by simp[intOf];omega⟩
  ·obtain rfl:k=n:=by omega
   go_wp2
   go_ret
   exact⟨z0,rfl,hAt.out,hBlk,hnx⟩
end Go.Proofs.YtgcnhfgpflncaaaGreatDoor
/- Cmp of limb,and Compare of package cmp. -/
namespace Go.Proofs.YtgcnhfgpflncaaaGreatDoor
open Go.RowKit
set_option maxHeartbeats 800000 in
theorem uV(x y:Nat)(w:World):Calls Tryz.prog 63 #[.int .i64 (x:Int),.int .i64 (y:Int)] w fun e w'=>e=.returned (.int .i64 (aV x y))/\w'=w:=by
 have q1:((x:Int)!=(x:Int))=false:=by simp
 have q2:((y:Int)!=(y:Int))=false:=by simp
 rcases Nat.lt_trichotomy x y with h|h|h
 ·rw[cK h]
  have h1:(x:Int)<(y:Int):=by omega
  go_enter Tryz.func63,Tryz.ntmps63
  go_wp2
  go_ret
  exact⟨rfl,rfl⟩
 ·rw[de h]
  have h1:¬(x:Int)<(y:Int):=by omega
  have h2:¬(y:Int)<(x:Int):=by omega
  clear h
  go_enter Tryz.func63,Tryz.ntmps63
  go_wp2
  go_ret
  exact⟨rfl,rfl⟩
 ·rw[cJ h]
  have h1:¬(x:Int)<(y:Int):=by omega
  have h2:(y:Int)<(x:Int):=by omega
  go_enter Tryz.func63,Tryz.ntmps63
  go_wp2
  go_ret
  exact⟨rfl,rfl⟩
set_option maxHeartbeats 800000 in
theorem uW(x y:Nat)(w:World):Calls Tryz.prog 64 #[.int .u64 (x:Int),.int .u64 (y:Int)] w fun e w'=>e=.returned (.int .i64 (aV x y))/\w'=w:=by
 have q1:((x:Int)!=(x:Int))=false:=by simp
 have q2:((y:Int)!=(y:Int))=false:=by simp
 rcases Nat.lt_trichotomy x y with h|h|h
 ·rw[cK h]
  have h1:(x:Int)<(y:Int):=by omega
  go_enter Tryz.func64,Tryz.ntmps64
  go_wp2
  go_ret
  exact⟨rfl,rfl⟩
 ·rw[de h]
  have h1:¬(x:Int)<(y:Int):=by omega
  have h2:¬(y:Int)<(x:Int):=by omega
  clear h
  go_enter Tryz.func64,Tryz.ntmps64
  go_wp2
  go_ret
  exact⟨rfl,rfl⟩
 ·rw[cJ h]
  have h1:¬(x:Int)<(y:Int):=by omega
  have h2:(y:Int)<(x:Int):=by omega
  go_enter Tryz.func64,Tryz.ntmps64
  go_wp2
  go_ret
  exact⟨rfl,rfl⟩
theorem D8{P:Program}{f:FuncId}{args:Array Value}{w:World}{q n:Nat}{v:Value}(h:Calls P f args (w.drewN (q+n)) fun e w'=>e=.returned v/\w'=w.drewN (q+n)):Calls P f args (w.drewN (q+n)) fun e w''=>e=.returned v/\∃ m,w''=w.drewN (q+m):=
 h.mono fun _ _ ⟨he,hm⟩=>⟨he,n,hm⟩
theorem zY{m n a b:Nat}(h1:a<b->m<n)(h2:b<a->n<m)(h:a≠b):aV a b=aV m n:=by
 rcases Nat.lt_trichotomy a b with k|k|k
 ·rw[cK k,cK (h1 k)]
 ·exact absurd k h
 ·rw[cJ k,cJ (h2 k)]
set_option maxRecDepth 100000 in
set_option maxHeartbeats 3200000 in
theorem lQ(w:World)(u v:Value)(m n:Nat)(hu:aL w u m)(hv:aL w v n):
  Calls Tryz.prog 43 #[u,v] w fun e w'=>e=.returned (.int .i64 (aV m n))/\Below w.heap.size w w':=by
 obtain⟨ga,ba,oa,ca,us,rA,cA,vA,lA,CA⟩:=eb hu
 obtain⟨gb,bb,ob,cb,vs,rB,cB,vB,lB,CB⟩:=eb hv
 have CA:=hide CA
 have CB:=hide CB
 obtain⟨la,hla⟩:∃ la,la=us.length:=⟨_,rfl⟩
 obtain⟨lb,hlb⟩:∃ lb,lb=vs.length:=⟨_,rfl⟩
 rw[<-hla]at CA lA
 rw[<-hlb]at CB lB
 have HLA:=hide hla
 have HLB:=hide hlb
 subst vA vB
 obtain⟨C,hC⟩:∃ C,C=aV (af us) (af vs):=⟨_,rfl⟩
 rw[<-hC]
 have HC:=hide hC
 clear hu hv hla hlb hC
 go_enter Tryz.func43,Tryz.ntmps43
 go_wp2_with fail
 refine(ae CA).mono ?_
 rintro e w1 ⟨rfl,rfl⟩
 go_wp2_with fail
 refine(ae CB).mono ?_
 rintro e w2 ⟨rfl,rfl⟩
 clear CA CB
 by_cases h1:la=lb
 ·subst h1
  have q1:((la:Int)!=(la:Int))=false:=by simp
  go_wp2
  go_loopw [5] (fun i wr=>∃ k:Nat,k<=la/\i=.int .i64 ((k:Int)-1)/\Hid (us.drop k=vs.drop k)/\Below w2.heap.size w2 wr) (fun i _=>(intOf i+1).toNat)
  case atStart=>exact⟨la,Nat.le_refl _,rfl,by show _=_;rw[List.drop_eq_nil_of_le (by rw[<-ae HLA];omega),List.drop_eq_nil_of_le (by rw[<-ae HLB];omega)],Below.refl _ _⟩
  case round=>
   obtain⟨k,hk,rfl,hD,hnx⟩:=hrel
   by_cases h0:k=0
   ·subst h0
    have he:us=vs:=by have:=hD.out;simpa using this
    have E:Hid ((0:Int)=C):=by show _=_;rw[ae HC,he,de rfl]
    clear he
    go_wp2
    go_ret
    exact⟨ax (ae E),hnx⟩
   ·obtain⟨j,rfl⟩:∃ j,k=j+1:=⟨k-1,by omega⟩
    obtain rfl:=rA.head (by rw[<-ae HLA];omega)
    obtain rfl:=rB.head (by rw[<-ae HLB];omega)
    obtain⟨x,hx⟩:∃ x:Nat,x=us.getD j 0:=⟨_,rfl⟩
    obtain⟨y,hy⟩:∃ y:Nat,y=vs.getD j 0:=⟨_,rfl⟩
    have ej:((j+1:Nat):Int)-1=(j:Int):=by omega
    rw[ej]
    have cx:wr.cell? ⟨ba,oa+j,none⟩=some (.int .u64 (x:Int)):=by rw[hx];exact(hnx.cell (by exact rA.lt (by rw[<-ae HLA];omega))).trans (rA.cell j (by rw[<-ae HLA];omega))
    have cy:wr.cell? ⟨bb,ob+j,none⟩=some (.int .u64 (y:Int)):=by rw[hy];exact(hnx.cell (by exact rB.lt (by rw[<-ae HLB];omega))).trans (rB.cell j (by rw[<-ae HLB];omega))
    by_cases hxy:x=y
    ·have H2:Hid (us.drop j=vs.drop j):=drop_step j (by rw[<-ae HLA];omega) (by rw[<-ae HLA, <-ae HLB]) hD.out (by rw[<-hx, <-hy];exact hxy)
     subst hxy
     have s2:((x:Int)!=(x:Int))=false:=by simp
     clear hx hy
     go_wp2
     go_quiet (fail)
     go_wp2
     exact⟨⟨j,by omega,rfl,H2,below_drewN hnx _⟩,by simp[intOf]⟩
    ·have hc:aV x y=aV (af us) (af vs):=zY (fun h=>ji cA.1 j hD.out (by rw[<-hx, <-hy];exact h)) (fun h=>ji cB.1 j hD.out.symm (by rw[<-hx, <-hy];exact h)) hxy
     have s2:((x:Int)!=(y:Int))=true:=by rw[bne_iff_ne];omega
     have CC:=hide (fun w=>uW x y w)
     have E:Hid (aV x y=C):=by show _=_;rw[ae HC,hc]
     generalize aV x y=cc at *
     clear hx hy hc hxy
     go_wp2
     go_quiet (fail)
     go_wp2
     go_quiet ((go_at_call 64;exact D8 (ae CC _)))
     go_wp2
     go_ret
     exact⟨ax (ae E),below_drewN (below_drewN hnx _) _⟩
 ·have hc:aV la lb=aV (af us) (af vs):=zY (fun h=>kC cA.1 cB (by rw[<-ae HLA, <-ae HLB];exact h)) (fun h=>kC cB.1 cA (by rw[<-ae HLA, <-ae HLB];exact h)) h1
  have q1:((la:Int)!=(lb:Int))=true:=by rw[bne_iff_ne];omega
  have CC:=hide (fun w=>uV la lb w)
  have E:Hid (aV la lb=C):=by show _=_;rw[ae HC,hc]
  generalize aV la lb=cc at *
  clear hc h1
  go_wp2_with fail
  refine(ae CC _).mono ?_
  rintro e w3 ⟨rfl,rfl⟩
  go_wp2
  go_ret
  exact⟨ax (ae E),Below.refl _ _⟩
end Go.Proofs.YtgcnhfgpflncaaaGreatDoor
/- Zero,within,farthest and Join of limb:parts,each so many words higher than the one ahead,are summed. -/
namespace Go.Proofs.YtgcnhfgpflncaaaGreatDoor
open Go.RowKit
theorem sD{us:List Nat}(h:cn us):us.length=0↔af us=0:=by
 constructor
 ·intro e
  obtain rfl:us=[]:=List.length_eq_zero_iff.1 e
  rfl
 ·intro e
  have:=dE h (L:=0) (by rw[e];decide)
  omega
theorem len_in{w:World}{v:Value}{n:Nat}(h:aL w v n):∃ l,l<=1073741824/\(∀ us,cn us->af us=n->us.length=l)/\(l=0↔n=0)/\Calls Tryz.prog 32 #[v] w fun e w'=>e=.returned (.int .i64 (l:Int))/\w'=w:=by
 obtain⟨ga,b,o,cap,xs,rfl,hr,hd,hv,hl⟩:=h
 have hc:=dB hd
 have hle:=bo xs xs.length
 refine⟨bY xs xs.length,by omega,fun us h1 h2=>?_,?_,len_any w ga b o cap _ xs rfl (by omega) hr⟩
 ·rw[<-aI,jQ h1 hc (by rw[cX,h2,hv])]
 ·rw[<-aI,sD hc,cX,hv]
set_option maxHeartbeats 400000 in
theorem gX{w:World}{v:Value}{n:Nat}(h:aL w v n)(b:Bool)(hb:b=decide (n=0)):Calls Tryz.prog 40 #[v] w fun e w'=>e=.returned (.bool b)/\w'=w:=by
 obtain⟨l,h1,h2,h3,CL⟩:=len_in h
 have CL:=hide CL
 have hq:((l:Int)==0)=b:=by
  rw[hb]
  by_cases hn:n=0
  ·have:l=0:=h3.2 hn
   subst this;simp[hn]
  ·have:l≠0:=fun e=>hn (h3.1 e)
   simp[hn];omega
 clear h h2 h3 hb
 go_enter Tryz.func40,Tryz.ntmps40
 go_wp2_with fail
 refine(ae CL).mono ?_
 rintro e w' ⟨rfl,rfl⟩
 clear CL
 go_wp2
 go_ret
 exact⟨rfl,rfl⟩
set_option maxHeartbeats 400000 in
theorem lC(z:Int)(most k:Nat)(w:World)(hk:(k:Int)=min (max z 0) (most:Int)):Calls Tryz.prog 68 #[.int .i64 z,.int .i64 (most:Int)] w fun e w'=>e=.returned (.int .i64 (k:Int))/\w'=w:=by
 have HK:=hide hk
 clear hk
 go_enter Tryz.func68,Tryz.ntmps68
 go_wp2
 go_ret
 exact⟨ax (ae HK).symm,rfl⟩
structure ju(w:World)(gp:Option Addr)(bp op:Nat)(vs:List Value)(ns:List Nat):Prop where
 head:0<vs.length->gp=some ⟨bp,op,none⟩
 len:ns.length=vs.length
 cell:∀ j,j<vs.length->w.cell? ⟨bp,op+j,none⟩=some (vs.getD j undef)
 each:∀ j,j<vs.length->aL w (vs.getD j undef) (ns.getD j 0)
theorem ju.lt{w:World}{gp:Option Addr}{bp op:Nat}{vs:List Value}{ns:List Nat}(h:ju w gp bp op vs ns)(h0:0<vs.length):bp<w.heap.size:=World.block_lt_of_cell? _ _ (h.cell 0 h0)
def dV(k:Nat)(ns:List Nat):Nat->Nat
 |0=>0
 |i+1=>dV k ns i+18446744073709551616^(k*i)*ns.getD i 0
def Far(k:Nat)(ns:List Nat)(i E:Nat):Prop:=∀ j,j<i->ns.getD j 0≠0->∀ us,cn us->af us=ns.getD j 0->k*j+us.length<=E
theorem Gx{k:Nat}{ns:List Nat}{i E:Nat}(h:Far k ns i E)(hz:ns.getD i 0=0):Far k ns (i+1) E:=fun j hj hn us h1 h2=>by
 by_cases e:j=i
 ·subst e;exact absurd hz hn
 ·exact h j (by omega) hn us h1 h2
theorem Gw{k:Nat}{ns:List Nat}{i E l E':Nat}(h:Far k ns i E)(hl:∀ us,cn us->af us=ns.getD i 0->us.length=l)(h1:E<=E')(h2:k*i+l<=E'):Far k ns (i+1) E':=fun j hj hn us c1 c2=>by
 by_cases e:j=i
 ·subst e;have:=hl us c1 c2;omega
 ·have:=h j (by omega) hn us c1 c2;omega
theorem Ak{k:Nat}{ns:List Nat}{i E:Nat}(hF:Far k ns i E)(hW:∀ j,j<i->∃ us,cn us/\af us=ns.getD j 0):∀ j,j<=i->dV k ns j<=j*(18446744073709551616^E-1)
 |0=>fun _=>by simp[dV]
 |j+1=>fun hj=>by
  have ih:=Ak hF hW j (by omega)
  have ht:18446744073709551616^(k*j)*ns.getD j 0<=18446744073709551616^E-1:=by
   by_cases hn:ns.getD j 0=0
   ·rw[hn];simp
   ·obtain⟨us,h1,h2⟩:=hW j (by omega)
    have h3:=hF j (by omega) hn us h1 h2
    have h4:=ak h1.1
    rw[h2]at h4
    have h5:18446744073709551616^(k*j)*(ns.getD j 0+1)<=18446744073709551616^(k*j)*18446744073709551616^us.length:=Nat.mul_le_mul_left _ h4
    rw[<-Nat.pow_add]at h5
    have h6:18446744073709551616^(k*j+us.length)<=18446744073709551616^E:=Nat.pow_le_pow_right (by omega) h3
    have h7:=bI (k*j)
    rw[Nat.mul_add,Nat.mul_one]at h5
    omega
  rw[dV,Nat.add_mul,Nat.one_mul]
  omega
theorem Cj{k:Nat}{ns:List Nat}{i E:Nat}(hF:Far k ns i E)(hW:∀ j,j<i->∃ us,cn us/\af us=ns.getD j 0)(hi:i<=65536):∀ j,j<=i->dV k ns j<18446744073709551616^(E+1):=fun j hj=>by
 have h1:=Ak hF hW j hj
 have h2:j*(18446744073709551616^E-1)<=65536*(18446744073709551616^E-1):=Nat.mul_le_mul_right _ (by omega)
 have h3:=bI E
 rw[Nat.pow_succ]
 omega
theorem GZ{w:World}{v:Value}{n:Nat}(h:aL w v n):∃ us,cn us/\af us=n:=by
 obtain⟨ga,b,o,cap,xs,rfl,hr,hd,hv,hl⟩:=h
 exact⟨mX xs,dB hd,by rw[cX];exact hv⟩
set_option maxRecDepth 100000 in
set_option maxHeartbeats 3200000 in
theorem sU(w:World)(gp:Option Addr)(bp op cp np k:Nat)(vs:List Value)(ns:List Nat)(hvl:vs.length=np)(hnp:np<=65536)(hk:k<=16384)(hP:ju w gp bp op vs ns):
  Calls Tryz.prog 104 #[.int .i64 (k:Int),.slice gp np cp] w fun e w'=>∃ E:Nat,e=.returned (.int .i64 (E:Int))/\E<=4294967296/\Far k ns np E/\w'=w:=by
 go_enter Tryz.func104,Tryz.ntmps104
 go_wp2
 go_loop [5,10] (fun e i=>∃(q E:Nat),q<=np/\e=.int .i64 (E:Int)/\i=.int .i64 (q:Int)/\E<=4294967296/\Hid (Far k ns q E)) (fun _ i=>np-(intOf i).toNat)
 case atStart=>exact⟨0,0,Nat.zero_le _,rfl,rfl,by omega,fun j hj=>absurd hj (by omega)⟩
 case round=>
  obtain⟨q,E,hq,rfl,rfl,hE,hF⟩:=hrel
  by_cases h1:q<np
  ·obtain rfl:=hP.head (by omega)
   have cv:=hP.cell q (by omega)
   have hin:=hP.each q (by omega)
   obtain⟨v,hv⟩:∃ v,v=vs.getD q undef:=⟨_,rfl⟩
   obtain⟨n,hn⟩:∃ n,n=ns.getD q 0:=⟨_,rfl⟩
   rw[<-hv]at cv hin
   rw[<-hn]at hin
   obtain⟨l,hl,hl2,hl3,CL⟩:=len_in hin
   have CL:=hide CL
   by_cases h0:n=0
   ·have CZ:=hide (gX hin true (by simp[h0]))
    have H2:=hide (Gx hF.out (by rw[<-hn];exact h0))
    clear hv hn hin hl2 hl3 h0
    go_wp2_with fail
    refine(ae CZ).mono ?_
    rintro e w' ⟨rfl,rfl⟩
    clear CZ CL
    go_wp2
    exact⟨⟨q+1,E,by omega,rfl,by go_num,hE,H2⟩,by simp[intOf];omega⟩
   ·have CZ:=hide (gX hin false (by simp[h0]))
    obtain⟨p,hp⟩:∃ p,p=k*q:=⟨_,rfl⟩
    have hpb:p<=1073741824:=by rw[hp];exact Nat.mul_le_mul (m₂:=65536) hk (by omega)
    have hpi:(k:Int)*(q:Int)=(p:Int):=by rw[hp];exact(Int.natCast_mul k q).symm
    have HP:=hide hp
    have H2:=hide (Gw (E':=max E (p+l)) hF.out (by rw[<-hn];exact hl2) (by omega) (by omega))
    clear hv hn hin hl2 hl3 h0 hp
    go_wp2_with fail
    refine(ae CZ).mono ?_
    rintro e w' ⟨rfl,rfl⟩
    clear CZ
    go_wp2_with fail
    refine(ae CL).mono ?_
    rintro e w' ⟨rfl,rfl⟩
    clear CL
    go_wp2
    exact⟨⟨q+1,max E (p+l),by omega,congrArg (Value.int .i64) (by omega),by go_num,by omega,H2⟩,by simp[intOf];omega⟩
  ·obtain rfl:q=np:=by omega
   go_wp2
   go_ret
   exact⟨E,rfl,hE,hF.out,rfl⟩
end Go.Proofs.YtgcnhfgpflncaaaGreatDoor
/- Join and Sum of limb. -/
namespace Go.Proofs.YtgcnhfgpflncaaaGreatDoor
open Go.RowKit
theorem Ju{w:World}{v:Value}{n:Nat}(h:aL w v n):∃ ga b o cap us,Rep w ga b o cap us/\cn us/\af us=n/\us.length<=1073741824/\∀ W:World,(∀ a:Addr,a.block<w.heap.size->W.cell? a=w.cell? a)->Calls Tryz.prog 51 #[v] W fun e w'=>e=.returned (.slice ga us.length cap)/\w'=W:=by
 obtain⟨ga,b,o,cap,xs,rfl,hr,hd,hv,hl⟩:=h
 have hle:=bo xs xs.length
 exact⟨ga,b,o,cap,mX xs,hr.take _ hle,dB hd,by rw[cX];exact hv,by rw[aI];omega,fun W hW=>qh W ga b o cap _ _ xs rfl (by omega) ⟨hr.head,hr.room,fun j hj=>by rw[hW _ (hr.lt (by omega))];exact hr.cell j hj⟩ (aI xs)⟩
set_option maxRecDepth 100000 in
set_option maxHeartbeats 3200000 in
theorem mR(w:World)(gp:Option Addr)(bp op cp np k:Nat)(z:Int)(vs:List Value)(ns:List Nat)(hvl:vs.length=np)(hnp:np<=65536)(hz:(k:Int)=min (max z 0) 16384)(hP:ju w gp bp op vs ns):
  Calls Tryz.prog 78 #[.int .i64 z,.slice gp np cp] w fun e w'=>∃ r,e=.returned r/\ah w.heap.size w' r (dV k ns np)/\Below w.heap.size w w':=by
 have hk:k<=16384:=by omega
 have CW:=hide (fun w=>lC z 16384 k w hz)
 have CF:=hide (sU w gp bp op cp np k vs ns hvl hnp hk hP)
 clear hz
 go_enter Tryz.func78,Tryz.ntmps78
 go_wp2_with fail
 refine(ae CW _).mono ?_
 rintro e w1 ⟨rfl,rfl⟩
 go_wp2_with fail
 refine(ae CF).mono ?_
 rintro e w2 ⟨E,rfl,hE,hF,rfl⟩
 clear CW CF
 have hroom:=Cj hF (fun j hj=>GZ (hP.each j (by omega))) hnp
 obtain⟨N,hN⟩:∃ N,N=E+1:=⟨_,rfl⟩
 rw[<-hN]at hroom
 have HR:=hide hroom
 have HF:=hide hF
 have hmk:=bX N N ((E:Int)+1) (by omega) rfl (by omega)
 have hk0:aB (w2.alloc (.cells (aF N).toArray 41)) w2.heap.size (List.replicate N 0):=heap_alloc_new w2 _
 have hb0:Below w2.heap.size w2 (w2.alloc (.cells (aF N).toArray 41)):=(Below.refl _ _).alloc (Nat.le_refl _) _
 have HK0:=hide hk0
 have HB0:=hide hb0
 have HN:=hide hN
 have hNb:N<=4294967297:=by omega
 clear hroom hF hk0 hb0 hN
 go_wp2
 clear hmk
 go_loopw [17] (fun i wr=>∃(q:Nat) (zs:List Nat),q<=np/\i=.int .i64 (q:Int)/\zs.length=N/\ao zs/\aB wr w2.heap.size zs/\Hid (af zs=dV k ns q)/\Below w2.heap.size w2 wr)
  (fun i _=>np-(intOf i).toNat)
 case atStart=>exact⟨0,List.replicate N 0,Nat.zero_le _,rfl,by simp,(g8 N).1,ae HK0,(g8 N).2,ae HB0⟩
 case round=>
  obtain⟨q,zs,hq,rfl,hzl,dz,hBlk,hV,hnx⟩:=hrel
  clear HK0 HB0
  have hsz:=hnx.size
  by_cases h1:q<np
  ·obtain rfl:=hP.head (by omega)
   have cv:=(hnx.cell (by exact hP.lt (by omega))).trans (hP.cell q (by omega))
   have hin:=(hP.each q (by omega)).next hnx
   obtain⟨v,hv⟩:∃ v,v=vs.getD q undef:=⟨_,rfl⟩
   obtain⟨n,hn⟩:∃ n,n=ns.getD q 0:=⟨_,rfl⟩
   rw[<-hv]at cv hin
   rw[<-hn]at hin
   have hj:dV k ns (q+1)=dV k ns q+18446744073709551616^(k*q)*n:=by rw[hn];rfl
   by_cases h0:n=0
   ·have CZ:=hide (gX hin true (by simp[h0]))
    have H2:Hid (af zs=dV k ns (q+1)):=by show _=_;rw[hj,h0,Nat.mul_zero,Nat.add_zero];exact hV.out
    clear hv hn hin h0 hj
    go_wp2_with fail
    refine(ae CZ).mono ?_
    rintro e w' ⟨rfl,rfl⟩
    clear CZ
    go_wp2
    exact⟨⟨q+1,zs,by omega,by go_num,hzl,dz,hBlk,H2,hnx⟩,by simp[intOf];omega⟩
   ·have CZ:=hide (gX hin false (by simp[h0]))
    have hin2:=hP.each q (by omega)
    rw[<-hv, <-hn]at hin2
    obtain⟨gb,bb,ob,cb,us,rB,cB,vB,lB,CT⟩:=Ju hin2
    obtain⟨p,hp⟩:∃ p,p=k*q:=⟨_,rfl⟩
    have hpi:(k:Int)*(q:Int)=(p:Int):=by rw[hp];exact(Int.natCast_mul k q).symm
    have hfar:=ae HF q h1 (by rw[<-hn];exact h0) us cB (by rw[vB,hn])
    rw[<-hp]at hfar hj
    obtain⟨lb,hlb⟩:∃ lb,lb=us.length:=⟨_,rfl⟩
    rw[<-hlb]at CT lB hfar
    have hpN:p+lb+1<=N:=by rw[ae HN];omega
    obtain⟨M,hM⟩:∃ M,N=p+M:=⟨N-p,by omega⟩
    have hrm:af zs+18446744073709551616^p*af us<18446744073709551616^(p+M):=by
     rw[<-hM,vB,hV.out, <-hj];exact ae HR (q+1) (by omega)
    have hne:0<us.length->bb≠w2.heap.size:=fun h=>by have:=rB.lt h;omega
    have CT:=hide (fun W (hW:Below w2.heap.size w2 W)=>CT W (fun a ha=>hW.cell ha))
    have CA:=hide (fun W (hB:aB W w2.heap.size zs) (hW:Below w2.heap.size w2 W)=>mI W w2.heap.size p M M bb ob cb lb gb zs us (by rw[hzl,hM]) hlb.symm (by omega) (by omega) hB dz (rB.next hW) cB.1 hne hrm)
    have H2:Hid (af zs+18446744073709551616^p*af us=dV k ns (q+1)):=by show _=_;rw[vB,hV.out,hj]
    generalize af zs+18446744073709551616^p*af us=S at *
    have HM:=hide hM
    have hpM:p<=N:=by omega
    have hMs:N-p=M:=by omega
    have hNp:¬N=p:=by omega
    have hwp:IntKind.i64.wrap (p:Int)=(p:Int):=by rw[IntKind.wrap_i64];omega
    have hpi2:0<=(p:Int)/\(p:Int)<=(N:Int):=by omega
    have HLZ:=hide hzl
    clear hv hn hin hin2 h0 hj hp hfar hlb hrm hne rB cB vB hM hzl
    go_wp2_with fail
    refine(ae CZ).mono ?_
    rintro e w' ⟨rfl,rfl⟩
    clear CZ
    go_wp2
    go_region_with (first
     |(go_at_call 51;refine(ae CT _ ?_).mono ?_;exact hnx.drew;rintro e w' ⟨rfl,rfl⟩)
     |(go_at_call 75;refine(ae CA _ ?_ ?_).mono ?_;exact hBlk;exact hnx.drew;rintro e w4 ⟨rfl,zs',hl4,hd4,k4,hv4,g4⟩))
    all_goals
     go_wp2
     exact⟨⟨q+1,zs',by omega,by go_num,by rw[hl4,ae HM],hd4,k4,by rw[hv4];exact H2,below_grown hnx.drew g4 (Nat.le_refl _) hsz⟩,by simp[intOf];omega⟩
  ·obtain rfl:q=np:=by omega
   have HV:=hV
   go_wp2_with fail
   refine(d6 (B:=w2.heap.size) hzl (by omega) (Nat.le_refl _) hBlk dz).mono ?_
   rintro e w5 ⟨r,rfl,hr,rfl⟩
   rw[hV.out]at hr
   go_wp2
   go_ret
   exact⟨r,rfl,hr,hnx⟩
end Go.Proofs.YtgcnhfgpflncaaaGreatDoor
/- The examples of the document on rows of words. -/
namespace Go.Proofs.YtgcnhfgpflncaaaGreatDoor
open Go.RowKit
theorem rJ{B:Nat}{w:World}{v:Value}{n:Nat}{ws:List Nat}(h:ah B w v n)(hc:cn ws)(hw:af ws=n):∃ ga b cap,v=.slice ga ws.length cap/\Rep w ga b 0 cap ws:=by
 obtain⟨ga,b,cap,xs,rfl,hr,hx,hv,_⟩:=h.rep
 obtain rfl:=jQ hx hc (by rw[hv,hw])
 exact⟨ga,b,cap,rfl,hr⟩
end Go.Proofs.YtgcnhfgpflncaaaGreatDoor
/- What the laws of limb share:rows that are spoilt,'from'. -/
namespace Go.Proofs.YtgcnhfgpflncaaaGreatDoor
open Go.RowKit
def aS(B M:Nat)(w:World)(v:Value)(n:Nat):Prop:=
 ∃ xs,cn xs/\af xs=n/\((v=.slice none 0 0/\xs=[])\/∃ g ys,B<=g/\g<M/\v=.slice (some ⟨g,0,none⟩) xs.length (xs++ys).length/\aB w g (xs++ys)/\xs.length+ys.length<=1099511627776)
theorem ah.born{B:Nat}{w:World}{v:Value}{n:Nat}(h:ah B w v n):aS B w.heap.size w v n:=by
 obtain⟨xs,hc,hv,h|⟨g,ys,hg,rfl,hk,hl⟩⟩:=h
 ·exact⟨xs,hc,hv,Or.inl h⟩
 ·exact⟨xs,hc,hv,Or.inr ⟨g,ys,hg,hk.lt,rfl,hk,hl⟩⟩
theorem aS.toW{B M:Nat}{w:World}{v:Value}{n:Nat}(h:aS B M w v n):ah B w v n:=by
 obtain⟨xs,hc,hv,h|⟨g,ys,hg,_,rfl,hk,hl⟩⟩:=h
 ·exact⟨xs,hc,hv,Or.inl h⟩
 ·exact⟨xs,hc,hv,Or.inr ⟨g,ys,hg,rfl,hk,hl⟩⟩
theorem aS.next{B M:Nat}{w w':World}{v:Value}{n:Nat}(h:aS B M w v n)(hb:Below w.heap.size w w'):aS B M w' v n:=by
 obtain⟨xs,hc,hv,h|⟨g,ys,hg,hm,rfl,hk,hl⟩⟩:=h
 ·exact⟨xs,hc,hv,Or.inl h⟩
 ·exact⟨xs,hc,hv,Or.inr ⟨g,ys,hg,hm,rfl,hk.next hb,hl⟩⟩
theorem Ik(B M:Nat)(w:World):aS B M w (.slice none 0 0) 0:=⟨[],iI,rfl,Or.inl ⟨rfl,rfl⟩⟩
def sK(B M:Nat)(w w':World):Prop:=w'=w\/∃ g,B<=g/\g<M/\w.grownBy w' (some g)
theorem Rep.spoilt{B M:Nat}{w w':World}{ga:Option Addr}{b o cap:Nat}{xs:List Nat}(h:Rep w ga b o cap xs)(hs:sK B M w w')(hb:0<xs.length->b<B\/M<=b):Rep w' ga b o cap xs:=by
 rcases hs with rfl|⟨g,h1,h2,hg⟩
 ·exact h
 ·exact h.but hg (fun h0=>by have:=hb h0;omega)
theorem aS.spoilt{B M B' M':Nat}{w w':World}{v:Value}{n:Nat}(h:aS B' M' w v n)(hs:sK B M w w')(hd:M<=B'\/M'<=B):aS B' M' w' v n:=by
 rcases hs with rfl|⟨g,h1,h2,hg⟩
 ·exact h
 ·obtain⟨xs,hc,hv,h|⟨k,ys,hk1,hk2,rfl,hk,hl⟩⟩:=h
  ·exact⟨xs,hc,hv,Or.inl h⟩
  ·exact⟨xs,hc,hv,Or.inr ⟨k,ys,hk1,hk2,rfl,hk.but hg (by omega),hl⟩⟩
theorem lN{B M C:Nat}{w0 w w':World}(h:Below C w0 w)(hs:sK B M w w')(hC:C<=B)(hw:C<=w.heap.size):Below C w0 w':=by
 rcases hs with rfl|⟨g,h1,h2,hg⟩
 ·exact h
 ·exact below_grown h hg (by omega) hw
theorem rU(w:World)(v:Value)(n B M:Nat)(h:aS B M w v n):Calls Tryz.prog 17 #[v] w fun e w'=>e=.returned (.tuple #[])/\sK B M w w':=by
 obtain⟨xs,hc,hv,⟨rfl,rfl⟩|⟨g,ys,hg,hm,rfl,hk,hl⟩⟩:=h
 ·refine(EI w).mono ?_
  rintro e w' ⟨rfl,rfl⟩
  exact⟨rfl,Or.inl rfl⟩
 ·refine(EH w g _ _ _ rfl (by simp) (by simpa using hl) hk).mono ?_
  rintro e w' ⟨rfl,hG⟩
  exact⟨rfl,Or.inr ⟨g,hg,hm,hG⟩⟩
end Go.Proofs.YtgcnhfgpflncaaaGreatDoor
/- Rows of rows:Cuts and Nats of keep;Sum of the reference;Sum of limb. -/
namespace Go.Proofs.YtgcnhfgpflncaaaGreatDoor
open Go.RowKit
structure RowsIn(w:World)(gp:Option Addr)(bp op:Nat)(vs:List Value):Prop where
 head:0<vs.length->gp=some ⟨bp,op,none⟩
 cell:∀ j,j<vs.length->w.cell? ⟨bp,op+j,none⟩=some (vs.getD j undef)
 each:∀ j,j<vs.length->∃ ga b o cap xs,vs.getD j undef=.slice ga xs.length cap/\Rep w ga b o cap xs/\ao xs
theorem Tryz.infoNt:(Tryz.prog.info? 29).map (fun i=>(i.zero,i.size,i.bytes))=some (some (.slice none 0 0),1,24):=by kernel_rfl
theorem s9{o:Option TypeInfo}{z:Option Value}{n b:Nat}(h:o.map (fun i=>(i.zero,i.size,i.bytes))=some (z,n,b)):∃ i,o=some i/\i.zero=z/\i.size=n/\i.bytes=b:=by
 cases o with
 |none=>simp at h
 |some i=>simp at h;exact⟨i,rfl,h.1,h.2.1,h.2.2⟩
theorem mY{w:World}{base t n:Nat}{v:Value}{us:List Value}(h:w.ownsRow base t 1 v n us):∃ ga b cap,v=.slice ga n cap/\us.length=n/\(0<n->ga=some ⟨b,0,none⟩/\base<=b)/\∀ j,j<n->w.cell? ⟨b,0+j,none⟩=some (us.getD j undef):=by
 have hl:us.length=n:=by simpa using h.1
 rcases h.2 with⟨rfl,rfl⟩|⟨g,cap,cur,rfl,hb,hg,hc,hm,hs,ht⟩
 ·exact⟨none,0,0,rfl,hl,fun h=>absurd h (by omega),fun j hj=>absurd hj (by omega)⟩
 ·have ho:w.ownsRow base t 1 (.slice (some ⟨g,0,none⟩) n cap) n us:=⟨h.1,Or.inr ⟨g,cap,cur,rfl,hb,hg,hc,hm,hs,ht⟩⟩
  refine⟨_,g,cap,rfl,hl,fun _=>⟨rfl,hb⟩,fun j hj=>?_⟩
  rw[Nat.zero_add,ho.cellAt j (by omega)]
  simp[List.getD_eq_getElem?_getD,show j<us.length from by omega]
theorem vw(us:List Value)(u:Value)(j:Nat):(us++[u]).getD j undef=if j<us.length then us.getD j undef else if j=us.length then u else undef:=by
 simp only[List.getD_eq_getElem?_getD,List.getElem?_append]
 split
 ·rfl
 ·rename_i h
  by_cases e:j=us.length
  ·subst e;simp
  ·rw[if_neg e]
   have:j-us.length≠0:=by omega
   obtain⟨k,hk⟩:∃ k,j-us.length=k+1:=⟨j-us.length-1,by omega⟩
   rw[hk];simp
theorem vu(ns:List Nat)(n j:Nat):(ns++[n]).getD j 0=if j<ns.length then ns.getD j 0 else if j=ns.length then n else 0:=by
 rw[cR]
 split
 ·rfl
 ·by_cases e:j=ns.length
  ·subst e;simp
  ·rw[if_neg e]
   obtain⟨k,hk⟩:∃ k,j-ns.length=k+1:=⟨j-ns.length-1,by omega⟩
   rw[hk];simp
theorem bj(ns:List Nat)(i:Nat):dV 0 ns (i+1)=dV 0 ns i+ns.getD i 0:=by
 rw[dV,Nat.zero_mul,Nat.pow_zero,Nat.one_mul]
set_option maxHeartbeats 800000 in
theorem Nw(w:World)(gp:Option Addr)(bp op cp np:Nat)(vs:List Value)(ns:List Nat)(hvl:vs.length=np)(hnp:np<=65536)(hP:ju w gp bp op vs ns):
  Calls Tryz.prog 59 #[.slice gp np cp] w fun e w'=>∃ r,e=.returned r/\ah w.heap.size w' r (dV 0 ns np)/\Below w.heap.size w w':=by
 have C:=hide (mR w gp bp op cp np 0 0 vs ns hvl hnp (by decide) hP)
 clear hP hvl
 go_enter Tryz.func59,Tryz.ntmps59
 go_wp2_with fail
 refine(ae C).mono ?_
 rintro e w1 ⟨r,rfl,hr,hb⟩
 go_wp2
 go_ret
 exact⟨r,rfl,hr,hb⟩
end Go.Proofs.YtgcnhfgpflncaaaGreatDoor
/- ju that were just laid,joined and summed. -/
namespace Go.Proofs.YtgcnhfgpflncaaaGreatDoor
open Go.RowKit
theorem nJ(w:World)(u v x:Value)(m n p t:Nat)(hu:aL w u m)(hv:aL w v n)(hx:aL w x p):ju (w.alloc (.cells #[u,v,x] t)) (some ⟨w.heap.size,0,none⟩) w.heap.size 0 [u,v,x] [m,n,p]:=by
 have hb:Below w.heap.size w (w.alloc (.cells #[u,v,x] t)):=(Below.refl _ _).alloc (Nat.le_refl _) _
 refine⟨fun _=>rfl,rfl,fun j hj=>?_,fun j hj=>?_⟩
 ·have hj2:j<3:=hj
  rw[Nat.zero_add,cell_of_row _ w.heap.size j #[u,v,x] t (0,0) (heap_alloc_new w _)]
  match j,hj2 with
  |0,_=>rfl
  |1,_=>rfl
  |2,_=>rfl
 ·have hj2:j<3:=hj
  match j,hj2 with
  |0,_=>exact hu.next hb
  |1,_=>exact hv.next hb
  |2,_=>exact hx.next hb
theorem se(w:World)(u v x:Value)(m n p:Nat)(hu:aL w u m)(hv:aL w v n)(hx:aL w x p):
  Calls Tryz.prog 59 #[.slice (some ⟨w.heap.size,0,none⟩) 3 3] (w.alloc (.cells #[u,v,x] 29)) fun e w'=>∃ r,e=.returned r/\ah w.heap.size w' r (m+n+p)/\Below w.heap.size w w':=by
 have hb:Below w.heap.size w (w.alloc (.cells #[u,v,x] 29)):=(Below.refl _ _).alloc (Nat.le_refl _) _
 refine(Nw _ _ _ _ 3 3 _ _ rfl (by omega) (nJ w u v x m n p 29 hu hv hx)).mono ?_
 rintro e w' ⟨r,rfl,hr,h⟩
 have e3:dV 0 [m,n,p] 3=m+n+p:=by
  rw[bj,bj,bj];simp[dV]
 rw[e3]at hr
 exact⟨r,rfl,hr.mono hb.size,ag hb h⟩
end Go.Proofs.YtgcnhfgpflncaaaGreatDoor
/- Bits of api's Nat. -/
namespace Go.Proofs.YtgcnhfgpflncaaaGreatDoor
open Go.RowKit
def jU(n L:Nat):Prop:=(n=0/\L=0)\/(0<n/\1<=L/\2^(L-1)<=n/\n<2^L)
theorem pn{n L M:Nat}(h:jU n L)(k:jU n M):L=M:=by
 rcases h with⟨h1,h2⟩|⟨h1,h2,h3,h4⟩<;>rcases k with⟨k1,k2⟩|⟨k1,k2,k3,k4⟩<;>try omega
 have a:L-1<M:=(Nat.pow_lt_pow_iff_right (a:=2) (by omega)).1 (by omega)
 have b:M-1<L:=(Nat.pow_lt_pow_iff_right (a:=2) (by omega)).1 (by omega)
 omega
theorem oR:∀ f x,f<=64->x<2^f->jU x (Lib.bitLen x)
 |0,x,_,h=>by
  obtain rfl:x=0:=by simpa using h
  exact Or.inl ⟨rfl,by decide⟩
 |f+1,x,hf,h=>by
  by_cases h0:x=0
  ·subst h0;exact Or.inl ⟨rfl,by decide⟩
  ·have hx64:x<2^64:=Nat.lt_of_lt_of_le h (Nat.pow_le_pow_right (by omega) hf)
   have ih:=oR f (x/2) (by omega) (by rw[Nat.pow_succ]at h;omega)
   rw[Lib.bitLen_half x h0 hx64]
   rcases ih with⟨i1,i2⟩|⟨i1,i2,i3,i4⟩
   ·rw[i2];exact Or.inr ⟨by omega,by omega,by simp;omega,by omega⟩
   ·generalize Lib.bitLen (x/2)=L at *
    refine Or.inr ⟨by omega,by omega,?_,?_⟩
    ·obtain⟨l,rfl⟩:∃ l,L=l+1:=⟨L-1,by omega⟩
     rw[show 1+(l+1)-1=l+1 from by omega,Nat.pow_succ]
     rw[Nat.add_sub_cancel]at i3
     omega
    ·rw[Nat.add_comm,Nat.pow_succ];omega
theorem vC{lo x L k:Nat}(hlo:lo<18446744073709551616^k)(hx:0<x)(h:jU x L):jU (lo+18446744073709551616^k*x) (64*k+L):=by
 rcases h with⟨h1,_⟩|⟨_,h2,h3,h4⟩
 ·omega
 ·have e:18446744073709551616^k=2^(64*k):=by rw[Nat.pow_mul]
  have hp:=bI k
  have hm:18446744073709551616^k*1<=18446744073709551616^k*x:=Nat.mul_le_mul_left _ hx
  refine Or.inr ⟨by omega,by omega,?_,?_⟩
  ·rw[show 64*k+L-1=64*k+(L-1) from by omega,Nat.pow_add, <-e]
   have:=Nat.mul_le_mul_left (18446744073709551616^k) h3
   omega
  ·rw[Nat.pow_add, <-e]
   have:=Nat.mul_le_mul_left (18446744073709551616^k) (show x+1<=2^L from h4)
   rw[Nat.mul_add,Nat.mul_one]at this
   omega
set_option maxRecDepth 100000 in
set_option maxHeartbeats 1600000 in
theorem pB{w:World}{v:Value}{n:Nat}(h:aL w v n):∃ L,L<=68719476736/\jU n L/\Calls Tryz.prog 35 #[v] w fun e w'=>e=.returned (.int .i64 (L:Int))/\w'=w:=by
 obtain⟨ga,b,o,cap,xs,rfl,hr,hd,hv,hl⟩:=h
 obtain⟨la,hla⟩:∃ la,la=xs.length:=⟨_,rfl⟩
 have CL:=hide (len_any w ga b o cap la xs hla.symm (by omega) hr)
 rw[<-hla]at hl ⊢
 have hv2:=kt xs la
 have htop:=jJ xs la
 have hle:=bo xs la
 rw[hla,List.take_length, <-hla,hv]at hv2
 obtain⟨l,hle2⟩:∃ l,l=bY xs la:=⟨_,rfl⟩
 rw[<-hle2]at CL hv2 htop hle
 by_cases h0:l=0
 ·subst h0
  refine⟨0,by omega,Or.inl ⟨by rw[<-hv2];rfl,rfl⟩,?_⟩
  clear htop hv2 hv hd hla hle2
  go_enter Tryz.func35,Tryz.ntmps35
  go_wp2_with fail
  refine(ae CL).mono ?_
  rintro e w1 ⟨rfl,rfl⟩
  clear CL
  go_wp2
  go_ret
  exact⟨rfl,rfl⟩
 ·obtain⟨k,rfl⟩:∃ k,l=k+1:=⟨l-1,by omega⟩
  have htop:=htop (by omega)
  rw[Nat.add_sub_cancel]at htop
  obtain⟨x,hx⟩:∃ x,x=xs.getD k 0:=⟨_,rfl⟩
  have hx64:x<18446744073709551616:=by rw[hx];exact hd k
  rw[ay, <-hx]at hv2
  rw[<-hx]at htop
  have hB:=oR 64 x (by omega) hx64
  have CB:=hide (fun w=>km (x:Int) w (by omega) (by omega))
  rw[Int.toNat_natCast]at CB
  have hLb:Lib.bitLen x<=64:=by
   rcases hB with⟨_,h2⟩|⟨_,h2,h3,_⟩
   ·omega
   ·have:Lib.bitLen x-1<64:=(Nat.pow_lt_pow_iff_right (a:=2) (by omega)).1 (by omega)
    omega
  generalize Lib.bitLen x=L at *
  have hH:=vC (ei hd k) htop hB
  rw[hv2]at hH
  refine⟨64*k+L,by omega,hH,?_⟩
  obtain rfl:=hr.head (by omega)
  have cx:w.cell? ⟨b,o+k,none⟩=some (.int .u64 (x:Int)):=by rw[hx];exact hr.cell k (by omega)
  have hnz:(((k+1:Nat):Int)==0)=false:=by rw[beq_eq_false_iff_ne];omega
  have ek:((k+1:Nat):Int)-1=(k:Int):=by omega
  have eL:(64:Int)*(k:Int)+(L:Int)=((64*k+L:Nat):Int):=by omega
  have HEL:=hide eL
  clear htop hv2 hv hd hx hB hH eL hla hle2
  go_enter Tryz.func35,Tryz.ntmps35
  go_wp2_with fail
  refine(ae CL).mono ?_
  rintro e w1 ⟨rfl,rfl⟩
  clear CL
  go_wp2_with fail
  refine(ae CB _).mono ?_
  rintro e w2 ⟨rfl,rfl⟩
  clear CB
  go_wp2
  go_ret
  exact⟨ax (ae HEL),rfl⟩
end Go.Proofs.YtgcnhfgpflncaaaGreatDoor
/- Newton's steps in plain numbers:how near a guess is to a reciprocal,how many words it has,what it costs. -/
namespace Go.Proofs.YtgcnhfgpflncaaaGreatDoor
def cG(t D b k X:Nat):Prop:=4*(X*D)<4*2^(k+b)+t*D/\4*2^(k+b)<4*(X*D)+t*D
theorem Dx{D b k:Nat}(hD:0<D):cG 7 D b k (2^(k+b)/D):=by
 have h1:=Nat.div_mul_le_self (2^(k+b)) D
 have h2:=Nat.lt_div_mul_add hD (a:=2^(k+b))
 unfold cG
 generalize 2^(k+b)/D*D=Z at *
 generalize 2^(k+b)=P at *
 constructor<;>omega
theorem rH{t u D b k X:Nat}(h:cG t D b k X)(hu:t<=u):cG u D b k X:=by
 have:=Nat.mul_le_mul_right D hu
 unfold cG at *
 omega
theorem tr{D b k X:Nat}(hD:2^b<=D)(h:cG 8 D (b+1) k X):X<2*2^k+2:=by
 obtain⟨h1,_⟩:=h
 rw[show 2^(k+(b+1))=2*2^k*2^b by rw[<-Nat.add_assoc,Nat.pow_succ,Nat.pow_add];grind]at h1
 refine Nat.lt_of_mul_lt_mul_right (a:=4*D) ?_
 have:4*(2*2^k*2^b)<=4*(2*2^k*D):=Nat.mul_le_mul_left _ (Nat.mul_le_mul_left _ hD)
 grind
theorem Ie{D D' b' c k r X:Nat}(hD:D=D'*2^c+r)(hr:r<2^c)(hb:b'=k+4)(h0:2^(k+3)<=D')(h:cG 7 D' b' k X):cG 8 D (b'+c) k X:=by
 have hX:=tr (b:=k+3) h0 (rH (u:=8) (by rw[hb]at h;exact h) (by omega))
 obtain⟨h1,h2⟩:=h
 have hk:2^(k+3)=8*2^k:=by rw[Nat.pow_add];omega
 have hp:2^(k+(b'+c))=2^(k+b')*2^c:=by rw[<-Nat.add_assoc,Nat.pow_add]
 unfold cG
 rw[hp,hD]
 generalize 2^(k+b')=P at *
 rw[hk]at h0
 generalize 2^k=K at *
 generalize 2^c=C at *
 clear hp hk hD hb
 have a1:4*X*r<=(8*K+4)*r:=Nat.mul_le_mul_right r (by omega)
 have a2:8*K*r<=D'*C:=Nat.mul_le_mul h0 (by omega)
 have a3:(4*(X*D'))*C<=(4*P+7*D')*C:=Nat.mul_le_mul_right C (by omega)
 have a4:(4*P+1)*C<=(4*(X*D')+7*D')*C:=Nat.mul_le_mul_right C (by omega)
 have h0C:0<C:=by omega
 constructor
 ·by_cases hr0:r=0
  ·subst hr0
   have a5:(4*(X*D')+1)*C<=(4*P+7*D')*C:=Nat.mul_le_mul_right C (by omega)
   grind
  ·grind
 ·grind
theorem step_up{y D R P S F G K ch x:Nat}(hD:0<D)(hF:0<F)(SF:S*F=P)(KF:K*F=P*P)(c1:F*ch<=y*R)(c2:y*R<F*ch+F+y*G)
  (hR:R<2*D) (h1:128*D<=F) (h2:4*(y*G)<=F) (hP:P=y*D+R) (hx:x=y*S+ch):4*(x*D)<4*K+7*D/\4*K<4*(x*D)+7*D:=by
 have e1:F*(x*D)=y*D*P+F*ch*D:=by subst hx;grind
 have a1:F*ch*D<=y*R*D:=Nat.mul_le_mul_right D c1
 have a2:(y*R+1)*D<=(F*ch+F+y*G)*D:=Nat.mul_le_mul_right D c2
 have a3:4*(y*G)*D<=F*D:=Nat.mul_le_mul_right D h2
 have a4:128*D*D<=F*D:=Nat.mul_le_mul_right D h1
 have a5:R*R<=2*D*(2*D):=Nat.mul_le_mul (by omega) (by omega)
 have a6:0<F*D:=Nat.mul_pos hF hD
 constructor
 ·refine Nat.lt_of_mul_lt_mul_left (a:=F) ?_
  subst hP
  grind
 ·refine Nat.lt_of_mul_lt_mul_left (a:=F) ?_
  subst hP
  grind
theorem EL{y D R P S F G K ch x:Nat}(hD:0<D)(hF:0<F)(SF:S*F=P)(KF:K*F=P*P)(c1:F*ch<=y*R)(c2:y*R<F*ch+F+y*G)
  (hR:R<2*D) (h1:128*D<=F) (h2:4*(y*G)<=F) (hP:P+R=y*D) (hx:x+ch=y*S):4*(x*D)<4*K+7*D/\4*K<4*(x*D)+7*D:=by
 have e1:F*(x*D)+F*ch*D=y*D*P:=by
  rw[<-SF,show F*(x*D)+F*ch*D=(x+ch)*(F*D) by grind,hx]
  grind
 have a1:F*ch*D<=y*R*D:=Nat.mul_le_mul_right D c1
 have a2:(y*R+1)*D<=(F*ch+F+y*G)*D:=Nat.mul_le_mul_right D c2
 have a3:4*(y*G)*D<=F*D:=Nat.mul_le_mul_right D h2
 have a4:128*D*D<=F*D:=Nat.mul_le_mul_right D h1
 have a5:R*R<=2*D*(2*D):=Nat.mul_le_mul (by omega) (by omega)
 have a6:0<F*D:=Nat.mul_pos hF hD
 have e2:y*R*D=(P+R)*R:=by rw[hP];grind
 have e3:y*D*P=(P+R)*P:=by rw[hP]
 constructor
 ·refine Nat.lt_of_mul_lt_mul_left (a:=F) ?_
  grind
 ·refine Nat.lt_of_mul_lt_mul_left (a:=F) ?_
  grind
theorem Gg{y R G H F ch:Nat}(hF:F=G*H)(hc:ch=y*(R/G)/H):F*ch<=y*R:=by
 have h1:=Nat.div_mul_le_self (y*(R/G)) H
 have h2:=Nat.mul_le_mul_left y (Nat.div_mul_le_self R G)
 rw[<-hc]at h1
 have h3:=Nat.mul_le_mul_right G h1
 generalize R/G=q at *
 clear hc
 subst hF
 grind
theorem N5{y R G H F ch g:Nat}(hG:G=g+1)(hH:0<H)(hF:F=G*H)(hc:ch=y*(R/G)/H):y*R<F*ch+F+y*g:=by
 have h1:=Nat.lt_div_mul_add hH (a:=y*(R/G))
 have h2:=Nat.lt_div_mul_add (b:=G) (by omega) (a:=R)
 rw[<-hc]at h1
 have h3:y*R<=y*(R/G*G+g):=Nat.mul_le_mul_left y (by omega)
 have h4:(y*(R/G)+1)*G<=(ch*H+H)*G:=Nat.mul_le_mul_right G h1
 generalize R/G=q at *
 clear hc h2 h1 hH
 subst hF hG
 grind
theorem rI{D b k h cut R y x:Nat}(b0:2^b<=D)(b1:D<2^(b+1))(hk:60<k)(hh:h=k/2+4)(hcut:cut=h+(b+1)-k-4)(N:cG 8 D (b+1) h y)
  (hx:(2^(h+(b+1))=y*D+R/\x=y*2^(k-h)+y*(R/2^cut)/2^(2*h+(b+1)-k-cut))\/(2^(h+(b+1))+R=y*D/\x+y*(R/2^cut)/2^(2*h+(b+1)-k-cut)=y*2^(k-h))):cG 7 D (b+1) k x:=by
 have hy:=tr b0 N
 have hR:R<2*D:=by obtain⟨n1,n2⟩:=N;rcases hx with⟨e,_⟩|⟨e,_⟩<;>omega
 obtain⟨E,hE⟩:∃ E,E=2*h+(b+1)-k:=⟨_,rfl⟩
 obtain⟨e2,he2⟩:∃ e2,e2=2*h+(b+1)-k-cut:=⟨_,rfl⟩
 rw[<-he2]at hx
 have hF:2^E=2^cut*2^e2:=by rw[<-Nat.pow_add];congr 1;omega
 have SF:2^(k-h)*2^E=2^(h+(b+1)):=by rw[<-Nat.pow_add];congr 1;omega
 have KF:2^(k+(b+1))*2^E=2^(h+(b+1))*2^(h+(b+1)):=by rw[<-Nat.pow_add, <-Nat.pow_add];congr 1;omega
 have h1:128*D<=2^E:=by
  have:2^(b+1+7)<=2^E:=Nat.pow_le_pow_right (by omega) (by omega)
  rw[Nat.pow_add]at this
  omega
 have G0:0<2^cut:=Nat.pow_pos (by omega)
 obtain⟨g,hg⟩:∃ g,2^cut=g+1:=⟨2^cut-1,by omega⟩
 have h2:4*(y*g)<=2^E:=by
  by_cases hc0:h+(b+1)-k-4=0
  ·rw[hcut,hc0]at hg
   have:g=0:=by omega
   rw[this]
   omega
  ·have e4:2^E=2^cut*(16*2^h):=by
    rw[hF,show e2=h+4 by omega,Nat.pow_add]
    grind
   have h20:0<2^h:=Nat.pow_pos (by omega)
   have:y*g<=(4*2^h)*2^cut:=Nat.mul_le_mul (by omega) (by omega)
   rw[e4]
   grind
 have hH:0<2^e2:=Nat.pow_pos (by omega)
 have hE0:0<2^E:=Nat.pow_pos (by omega)
 have hD:0<D:=Nat.lt_of_lt_of_le (Nat.pow_pos (by omega)) b0
 have c1:=Gg (y:=y) (R:=R) hF rfl
 have c2:=N5 (y:=y) (R:=R) hg hH hF rfl
 unfold cG
 rcases hx with⟨e,ex⟩|⟨e,ex⟩
 ·exact step_up hD hE0 SF KF c1 c2 hR h1 h2 e ex
 ·exact EL hD hE0 SF KF c1 c2 hR h1 h2 e ex
theorem step_ok{D b k h cut R y:Nat}(b1:D<2^(b+1))(hk:60<k)(hh:h=k/2+4)(hcut:cut=h+(b+1)-k-4)(hR:R<2*D):y*(R/2^cut)/2^(2*h+(b+1)-k-cut)<=y*2^(k-h):=by
 obtain⟨E,hE⟩:∃ E,E=2*h+(b+1)-k:=⟨_,rfl⟩
 obtain⟨e2,he2⟩:∃ e2,e2=2*h+(b+1)-k-cut:=⟨_,rfl⟩
 rw[<-he2]
 have hF:2^E=2^cut*2^e2:=by rw[<-Nat.pow_add];congr 1;omega
 have SF:2^(k-h)*2^E=2^(h+(b+1)):=by rw[<-Nat.pow_add];congr 1;omega
 have c1:=Gg (y:=y) (R:=R) hF rfl
 have hb:2*2^(b+1)<=2^(h+(b+1)):=by
  have:2^(1+(b+1))<=2^(h+(b+1)):=Nat.pow_le_pow_right (by omega) (by omega)
  rw[Nat.pow_add]at this
  omega
 refine Nat.le_of_mul_le_mul_left ?_ (Nat.two_pow_pos E)
 refine Nat.le_trans c1 ?_
 rw[show 2^E*(y*2^(k-h))=y*(2^(k-h)*2^E) by grind,SF]
 exact Nat.mul_le_mul_left y (by omega)
theorem cL{n b:Nat}(h:n<2^b):wl n<=(b+63)/64:=by
 refine bQ _ _ (Nat.lt_of_lt_of_le h ?_)
 rw[show(18446744073709551616:Nat)=2^64 by decide, <-Nat.pow_mul]
 exact Nat.pow_le_pow_right (by omega) (by omega)
theorem dw{n l:Nat}(h:wl n<=l):n<18446744073709551616^l:=by
 refine Nat.lt_of_not_le fun h2=>?_
 have:=sy _ _ h2
 omega
theorem aH{m n:Nat}(h:m<=n):wl m<=wl n:=bQ _ _ (Nat.lt_of_le_of_lt h (dw (Nat.le_refl _)))
theorem gG(a c:Nat):wl (a*c)<=wl a+wl c:=by
 by_cases hc:c=0
 ·rw[hc,Nat.mul_zero,fK];omega
 ·refine bQ _ _ ?_
  rw[Nat.pow_add]
  exact Nat.mul_lt_mul'' (dw (Nat.le_refl _)) (dw (Nat.le_refl _))
theorem tu{D b k X:Nat}(hD:2^b<=D)(h:cG 8 D (b+1) k X):wl X<=(k+65)/64:=by
 have h1:=tr hD h
 have h2:0<2^k:=Nat.two_pow_pos k
 exact cL (b:=k+2) (by rw[Nat.pow_add];omega)
theorem Gf{D b k c:Nat}(h0:2^b<=D)(h1:D<2^(b+1))(hc:c=b+1-(k+4)):∃ b',2^b'<=D/2^c/\D/2^c<2^(b'+1)/\b'+1<=k+4/\b'<=b/\∀ X,cG 7 (D/2^c) (b'+1) k X->cG 8 D (b+1) k X:=by
 by_cases h:b+1<=k+4
 ·have:c=0:=by omega
  subst this
  rw[Nat.pow_zero,Nat.div_one]
  exact⟨b,h0,h1,h,Nat.le_refl _,fun X hX=>rH hX (by omega)⟩
 ·have e0:2^b=2^(k+3)*2^c:=by rw[<-Nat.pow_add];congr 1;omega
  have e1:2^(b+1)=2^(k+3+1)*2^c:=by rw[<-Nat.pow_add];congr 1;omega
  have hp:=Nat.two_pow_pos c
  have h2:2^(k+3)<=D/2^c:=(Nat.le_div_iff_mul_le hp).2 (by omega)
  have h3:D/2^c<2^(k+3+1):=(Nat.div_lt_iff_lt_mul hp).2 (by omega)
  refine⟨k+3,h2,h3,by omega,by omega,fun X hX=>?_⟩
  have:=Ie (D:=D) (c:=c) (r:=D%2^c) (by rw[Nat.mul_comm];exact(Nat.div_add_mod _ _).symm) (Nat.mod_lt _ hp) rfl h2 hX
  rw[show k+4+c=b+1 by omega]at this
  exact this
theorem LI{D b k h cut R:Nat}(b1:D<2^(b+1))(hk:h<=k)(hcut:cut=h+(b+1)-k-4)(hR:R<2*D):wl (R/2^cut)<=(k+5-h+63)/64:=by
 refine cL ((Nat.div_lt_iff_lt_mul (Nat.two_pow_pos cut)).2 ?_)
 rw[<-Nat.pow_add]
 have:2^(b+1+1)<=2^(k+5-h+cut):=Nat.pow_le_pow_right (by omega) (by omega)
 rw[Nat.pow_succ]at this
 omega
theorem Ig{D b h R y:Nat}(N:cG 8 D (b+1) h y)(hx:2^(h+(b+1))=y*D+R\/2^(h+(b+1))+R=y*D):R<2*D:=by
 obtain⟨n1,n2⟩:=N
 rcases hx with e|e<;>omega
def zt(k:Nat):Nat:=8*((k/2+69)/64*((k+67)/64)+(k/2+69)/64*((k+64-k/2)/64))
def Nj:Nat->Nat->Nat
 |0,_=>4
 |f+1,k=>if k<=60 then 4 else Nj f (k/2+4)+zt k
theorem il(f:Nat){k:Nat}(h:k<=60):Nj f k=4:=by cases f<;>simp[Nj,h]
theorem Ar:∀(f g k:Nat),k<=f->k<=g->Nj f k=Nj g k
 |0,g,k,h1,_=>by rw[il 0 (by omega),il g (by omega)]
 |f+1,g,k,h1,h2=>by
  by_cases h0:k<=60
  ·rw[il _ h0,il _ h0]
  ·obtain⟨j,rfl⟩:∃ j,g=j+1:=⟨g-1,by omega⟩
   simp only[Nj,if_neg h0]
   rw[Ar f j _ (by omega) (by omega)]
def nc(k:Nat):Nat:=Nj k k
theorem pD{k:Nat}(h:k<=60):nc k=4:=il k h
theorem pC{k:Nat}(h:¬k<=60):nc k=nc (k/2+4)+zt k:=by
 obtain⟨j,rfl⟩:∃ j,k=j+1:=⟨k-1,by omega⟩
 unfold nc
 rw[Nj,if_neg h,Ar j _ _ (by omega) (Nat.le_refl _)]
theorem zu{k:Nat}(h:k<=1048576):zt k<=4294967296:=by
 have a1:(k/2+69)/64*((k+67)/64)<=8194*16386:=Nat.mul_le_mul (by omega) (by omega)
 have a2:(k/2+69)/64*((k+64-k/2)/64)<=8194*16386:=Nat.mul_le_mul (by omega) (by omega)
 unfold zt
 omega
theorem Nk:∀ k:Nat,k<=1048576->nc k<=4294967296*(k+1):=by
 intro k
 induction k using Nat.strongRecOn with
 |_ k ih=>
  intro hk
  by_cases h:k<=60
  ·rw[pD h];omega
  ·rw[pC h]
   have:=ih (k/2+4) (by omega) (by omega)
   have:=zu hk
   omega
end Go.Proofs.YtgcnhfgpflncaaaGreatDoor
/- Division in pieces and in halves:plain mathematics. -/
namespace Go.Proofs.YtgcnhfgpflncaaaGreatDoor
theorem eI(k:Nat):0<18446744073709551616^k:=Nat.pow_pos (by omega)
theorem ku{A C:Nat}(h:wl A<wl C):wl (A/C)=0:=by
 have:A<C:=by
  refine Nat.lt_of_not_le fun hle=>?_
  have:=aH hle
  omega
 rw[Nat.div_eq_of_lt this,fK]
theorem zg{A C k:Nat}(hC:0<C)(hk:wl A=wl C+k)(h:A/18446744073709551616^k<C):wl (A/C)=k:=by
 have hp:=eI k
 have h1:A/C<18446744073709551616^k:=by
  refine(Nat.div_lt_iff_lt_mul hC).2 ?_
  have:=(Nat.div_lt_iff_lt_mul hp).1 h
  rw[Nat.mul_comm];exact this
 refine Nat.le_antisymm (bQ _ _ h1) ?_
 rcases k with _|k
 ·omega
 ·refine sy k _ ((Nat.le_div_iff_mul_le hC).2 ?_)
  have hc:=dw (n:=C) (l:=wl C) (Nat.le_refl _)
  refine Nat.le_of_not_lt fun hA=>?_
  have h3:A<18446744073709551616^(k+wl C):=by
   rw[Nat.pow_add]
   exact Nat.lt_trans hA (Nat.mul_lt_mul_of_pos_left hc (eI k))
  have:=bQ _ _ h3
  omega
theorem tJ{A C k:Nat}(hC:0<C)(hk:wl A=wl C+k)(h:¬A/18446744073709551616^k<C):wl (A/C)=k+1:=by
 have hp:=eI k
 have h1:k<wl (A/C):=by
  refine sy k _ ((Nat.le_div_iff_mul_le hC).2 ?_)
  have:=(Nat.le_div_iff_mul_le hp).1 (Nat.le_of_not_lt h)
  rw[Nat.mul_comm];exact this
 have h2:wl (A/C)<=k+1:=by
  refine bQ _ _ ((Nat.div_lt_iff_lt_mul hC).2 ?_)
  have ha:=dw (n:=A) (l:=wl A) (Nat.le_refl _)
  have c0:wl C≠0:=fun e=>by have:=bO.1 e;omega
  have hc:18446744073709551616^(wl C-1)<=C:=by
   refine Nat.le_of_not_lt fun hlt=>?_
   have:=bQ _ _ hlt
   omega
  rw[show wl A=k+1+(wl C-1) by omega,Nat.pow_add]at ha
  exact Nat.lt_of_lt_of_le ha (Nat.mul_le_mul_left _ hc)
 omega
theorem AA{A C:Nat}(hC:0<C):wl (A/C)<=wl A-wl C+1:=by
 by_cases h:wl A<wl C
 ·rw[ku h];omega
 ·obtain⟨k,hk⟩:∃ k,wl A=wl C+k:=⟨wl A-wl C,by omega⟩
  by_cases h2:A/18446744073709551616^k<C
  ·rw[zg hC hk h2];omega
  ·rw[tJ hC hk h2];omega
theorem Nn{A C:Nat}(hC:0<C):wl A<=wl (A/C)+wl C:=by
 by_cases h:wl A<wl C
 ·omega
 ·obtain⟨k,hk⟩:∃ k,wl A=wl C+k:=⟨wl A-wl C,by omega⟩
  by_cases h2:A/18446744073709551616^k<C
  ·rw[zg hC hk h2];omega
  ·rw[tJ hC hk h2];omega
theorem lk{Z C P:Nat}(hC:0<C)(hP:0<P):
  Z/C=((Z/P)%C*P+Z%P)/C+P*((Z/P)/C)/\Z%C=((Z/P)%C*P+Z%P)%C/\((Z/P)%C*P+Z%P)/C<P:=by
 obtain⟨Y,hY⟩:∃ Y,Y=Z/P:=⟨_,rfl⟩
 obtain⟨x,hx⟩:∃ x,x=Z%P:=⟨_,rfl⟩
 have hxl:x<P:=by rw[hx];exact Nat.mod_lt _ hP
 have e1:Z=P*Y+x:=by rw[hY,hx];exact(Nat.div_add_mod Z P).symm
 rw[<-hY, <-hx]
 obtain⟨a,ha⟩:∃ a,a=Y/C:=⟨_,rfl⟩
 obtain⟨r,hr⟩:∃ r,r=Y%C:=⟨_,rfl⟩
 have hrl:r<C:=by rw[hr];exact Nat.mod_lt _ hC
 have e2:Y=C*a+r:=by rw[ha,hr];exact(Nat.div_add_mod Y C).symm
 rw[<-ha, <-hr]
 have e3:Z=C*(P*a)+(r*P+x):=by
  rw[e1,e2,Nat.mul_add,Nat.mul_left_comm,Nat.mul_comm P r,Nat.add_assoc]
 refine⟨?_,?_,?_⟩
 ·rw[e3,Nat.mul_add_div hC,Nat.add_comm]
 ·rw[e3,Nat.mul_add_mod]
 ·refine(Nat.div_lt_iff_lt_mul hC).2 ?_
  have h1:r*P+P<=C*P:=by
   have:=Nat.mul_le_mul_right P (show r+1<=C from hrl)
   rw[Nat.succ_mul]at this
   exact this
  rw[Nat.mul_comm P C]
  omega
theorem Gy{Hi Lo C C1 C0 P:Nat}(hP:0<P)(h1:0<C1)(hC:C=C0+P*C1)(hLo:Lo<P):
  (Hi*P+Lo)+Hi/C1*C0=(Lo+P*(Hi%C1))+Hi/C1*C/\(Hi*P+Lo)/C<=Hi/C1:=by
 obtain⟨q,hq⟩:∃ q,q=Hi/C1:=⟨_,rfl⟩
 obtain⟨r,hr⟩:∃ r,r=Hi%C1:=⟨_,rfl⟩
 have e:Hi=C1*q+r:=by rw[hq,hr];exact(Nat.div_add_mod Hi C1).symm
 rw[<-hq, <-hr]
 constructor
 ·rw[e,hC];grind
 ·rw[hq]
  have a1:(Hi*P+Lo)/(P*C1)=Hi/C1:=by
   rw[<-Nat.div_div_eq_div_mul,Nat.mul_comm Hi P,Nat.mul_add_div hP,Nat.div_eq_of_lt hLo,Nat.add_zero]
  rw[<-a1]
  exact Nat.div_le_div_left (by omega) (Nat.mul_pos hP h1)
theorem Kx{X C q rest less:Nat}(h:X+less=rest+q*C)(hq:X/C<=q)(hC:0<C)(hlt:rest<less):0<q/\X+less=(rest+C)+(q-1)*C/\X/C<=q-1:=by
 have h1:X<q*C:=by omega
 have h2:X/C<q:=(Nat.div_lt_iff_lt_mul hC).2 h1
 generalize X/C=xc at *
 obtain⟨p,rfl⟩:∃ p,q=p+1:=⟨q-1,by omega⟩
 refine⟨by omega,?_,by omega⟩
 rw[Nat.succ_mul]at h
 rw[Nat.add_sub_cancel]
 omega
theorem Of{X C q rest less:Nat}(h:X+less=rest+q*C)(hq:X/C<=q)(hC:0<C)(hge:less<=rest):q=X/C/\rest-less=X%C:=by
 have h1:q*C<=X:=by omega
 have h2:q<=X/C:=(Nat.le_div_iff_mul_le hC).2 h1
 have e:q=X/C:=by omega
 refine⟨e,?_⟩
 have:=Nat.div_add_mod X C
 rw[<-e,Nat.mul_comm]at this
 omega
theorem Pq{Hi C C1 C0 h:Nat}(h1:0<C1)(hC:C=C0+18446744073709551616^h*C1)(h0:C0<18446744073709551616^h)(hlt:Hi<C):wl (Hi/C1)<=h+1:=by
 refine bQ _ _ ((Nat.div_lt_iff_lt_mul h1).2 ?_)
 have hp:=eI h
 have h2:C<18446744073709551616^h*2*C1:=by
  have:=Nat.mul_le_mul_left (18446744073709551616^h) h1
  rw[Nat.mul_right_comm]
  omega
 refine Nat.lt_of_lt_of_le (Nat.lt_trans hlt h2) (Nat.mul_le_mul_right C1 ?_)
 rw[Nat.pow_succ]
 exact Nat.mul_le_mul_left _ (by omega)
theorem tH{zs ps:List Nat}{i:Nat}(hz:∀ j,j<i+ps.length->zs.getD j 0=0)(hl:i+ps.length<=zs.length):af (zs.take i++ps++zs.drop (i+ps.length))=af zs+18446744073709551616^i*af ps:=by
 have e1:=bq zs (i+ps.length)
 have e2:zs.take (i+ps.length)=List.replicate (i+ps.length) 0:=by
  refine List.ext_getElem (by simp;omega) fun j h1 h2=>?_
  have hj:j<i+ps.length:=by simpa using h2
  have:=hz j hj
  rw[List.getD_eq_getElem?_getD,List.getElem?_eq_getElem (by omega)]at this
  simpa using this
 have e3:zs.take i=List.replicate i 0:=by
  have:=congrArg (List.take i) e2
  rw[List.take_take,Nat.min_eq_left (by omega)]at this
  rw[this,List.take_replicate,Nat.min_eq_left (by omega)]
 rw[e2,(g8 _).2]at e1
 rw[e1,ck,ck,e3,(g8 _).2]
 simp only[List.length_append,List.length_replicate]
 omega
structure PQ(A C Q:Nat)(zs:List Nat)(i:Nat):Prop where
 len:zs.length=Q
 dig:ao zs
 low:∀ j,j<i->zs.getD j 0=0
 val:af zs=18446744073709551616^i*(A/18446744073709551616^i/C)
theorem PQ.start{A C Q top:Nat}(h:A/18446744073709551616^top<C):PQ A C Q (List.replicate Q 0) top:=
 ⟨by simp,(g8 _).1,fun j _=>by rw[List.getD_eq_getElem?_getD,List.getElem?_replicate];split<;>rfl,by rw[(g8 _).2,Nat.div_eq_of_lt h,Nat.mul_zero]⟩
theorem gP(A i k:Nat):A/18446744073709551616^i/18446744073709551616^k=A/18446744073709551616^(i+k):=by
 rw[Nat.div_div_eq_div_mul, <-Nat.pow_add]
theorem PQ.step{A C Q i k:Nat}{zs ps:List Nat}(h:PQ A C Q zs (i+k))(hC:0<C)(hd:ao ps)(hk:ps.length<=k)(hQ:i+ps.length<=Q)
  (hv:af ps=(A/18446744073709551616^(i+k)%C*18446744073709551616^k+A/18446744073709551616^i%18446744073709551616^k)/C):PQ A C Q (zs.take i++ps++zs.drop (i+ps.length)) i:=by
 have hl:=h.len
 obtain⟨p1, -, -⟩:=lk (Z:=A/18446744073709551616^i) hC (eI k)
 rw[gP, <-hv]at p1
 refine⟨by simp;omega,fu (fu (aX h.dig _) hd) (aU h.dig _),fun j hj=>?_,?_⟩
 ·have:=h.low j (by omega)
  rw[List.getD_eq_getElem?_getD]at this ⊢
  rw[List.append_assoc,List.getElem?_append_left (by simp;omega),List.getElem?_take_of_lt hj]
  exact this
 ·rw[tH (fun j hj=>h.low j (by omega)) (by omega),h.val,p1,Nat.pow_add,Nat.mul_add,Nat.mul_assoc]
  omega
theorem DT{A C Q i k:Nat}(hC:0<C)(hQ:Q=wl (A/C))(hi:i<=Q):
  wl ((A/18446744073709551616^(i+k)%C*18446744073709551616^k+A/18446744073709551616^i%18446744073709551616^k)/C)<=k/\
  i+wl ((A/18446744073709551616^(i+k)%C*18446744073709551616^k+A/18446744073709551616^i%18446744073709551616^k)/C)<=Q:=by
 obtain⟨p1, -,p3⟩:=lk (Z:=A/18446744073709551616^i) hC (eI k)
 rw[gP]at p1 p3
 refine⟨bQ _ _ p3,?_⟩
 have h1:A/18446744073709551616^i/C<18446744073709551616^(Q-i):=by
  rw[Nat.div_div_eq_div_mul,Nat.mul_comm, <-Nat.div_div_eq_div_mul]
  refine(Nat.div_lt_iff_lt_mul (eI i)).2 ?_
  rw[<-Nat.pow_add,show Q-i+i=Q by omega,hQ]
  exact dw (Nat.le_refl _)
 have:=bQ (Q-i) _ (Nat.lt_of_le_of_lt (show _<=_ by rw[p1];exact Nat.le_add_right _ _) h1)
 omega
theorem PQ.fin{A C Q:Nat}{zs:List Nat}(h:PQ A C Q zs 0)(hQ:Q=wl (A/C)):cn zs/\af zs=A/C:=by
 have hv:=h.val
 simp only[Nat.pow_zero,Nat.div_one,Nat.one_mul]at hv
 refine⟨?_,hv⟩
 have hn:=tz h.dig
 rw[hv, <-hQ,h.len]at hn
 refine⟨h.dig,fun hp=>?_⟩
 have:=jJ zs Q (by rw[hn];rw[h.len]at hp;exact hp)
 rw[hn]at this
 rw[h.len]
 exact this
def cd(k h:Nat):Nat:=(k+h-1)/h
theorem yt{Q k:Nat}(hk:0<k):Q<=cd Q k*k/\cd Q k*k<Q+k:=by
 unfold cd
 have h1:=Nat.div_mul_le_self (Q+k-1) k
 have h2:=Nat.lt_div_mul_add hk (a:=Q+k-1)
 omega
theorem J6{a b h:Nat}(hab:a<=b):cd a h<=cd b h:=Nat.div_le_div_right (by omega)
def eF:Nat->Nat->Nat
 |0,_=>0
 |f+1,n=>max ((n/2+1+1)*(n-n/2+1)) (cd (n/2+1) ((n-n/2)/2)*eF f (n-n/2))+8*((n/2+1)*(n/2))
def hF(f n k:Nat):Nat:=max ((k+1)*(n+1)) (cd k (n/2)*eF f n)
theorem Af(f n:Nat):eF (f+1) n=hF f (n-n/2) (n/2+1)+8*((n/2+1)*(n/2)):=rfl
theorem Gs:∀ f,eF f 0<=2/\eF f 1<=4/\eF f 2<=22/\eF f 3<=60/\eF f 4<=114/\eF f 5<=228/\eF f 6<=336/\eF f 7<=324/\eF f 8<=502/\eF f 9<=844/\eF f 10<=924/\eF f 11<=912/\eF f 12<=1344/\eF f 13<=1308/\eF f 14<=1420/\eF f 15<=1452/\eF f 16<=2082/\eF f 17<=3108:=by
 intro f
 induction f with
 |zero=>simp[eF]
 |succ f ih=>
  obtain⟨i0,i1,i2,i3,i4,i5,i6,i7,i8,i9,i10,i11,i12,i13,i14,i15,i16,i17⟩:=ih
  refine⟨?_,?_,?_,?_,?_,?_,?_,?_,?_,?_,?_,?_,?_,?_,?_,?_,?_,?_⟩<;>simp[eF,cd]<;>omega
theorem Po:∀ n,1<=n->∀ f,eF f n<=16*(n*n):=by
 intro n
 induction n using Nat.strongRecOn with
 |_ n ih=>
  intro h1 f
  by_cases hn:n<18
  ·obtain⟨i0,i1,i2,i3,i4,i5,i6,i7,i8,i9,i10,i11,i12,i13,i14,i15,i16,i17⟩:=Gs f
   rcases(show n=1\/n=2\/n=3\/n=4\/n=5\/n=6\/n=7\/n=8\/n=9\/n=10\/n=11\/n=12\/n=13\/n=14\/n=15\/n=16\/n=17 by omega)with rfl|rfl|rfl|rfl|rfl|rfl|rfl|rfl|rfl|rfl|rfl|rfl|rfl|rfl|rfl|rfl|rfl<;>omega
  ·cases f with
   |zero=>simp[eF]
   |succ f=>
    rw[Af]
    obtain⟨h,hh⟩:∃ h,h=n/2:=⟨_,rfl⟩
    obtain⟨p,hp⟩:∃ p,p=n-n/2:=⟨_,rfl⟩
    have IH:=ih p (by omega) (by omega) f
    rw[<-hp, <-hh]
    have hcd:cd (h+1) (p/2)<=3:=by
     unfold cd
     refine Nat.le_of_lt_succ ((Nat.div_lt_iff_lt_mul (by omega)).2 ?_)
     omega
    have h3:cd (h+1) (p/2)*eF f p<=3*(16*(p*p)):=Nat.mul_le_mul hcd IH
    unfold hF
    have hph:p=h\/p=h+1:=by omega
    have hn2:n=p+h:=by omega
    generalize cd (h+1) (p/2)*eF f p=X at *
    clear IH hcd
    have h6:6*h<=h*h:=Nat.mul_le_mul_right h (by omega)
    have e1:(h+1)*h=h*h+h:=by rw[Nat.succ_mul]
    rcases hph with e|e
    ·subst e
     have e2:(p+1+1)*(p+1)=p*p+3*p+2:=by grind
     have e3:n*n=4*(p*p):=by rw[hn2];grind
     rw[e1,e2,e3]
     omega
    ·subst e
     have e2:(h+1+1)*(h+1+1)=h*h+4*h+4:=by grind
     have e3:n*n=4*(h*h)+4*h+1:=by rw[hn2];grind
     have e4:(h+1)*(h+1)=h*h+2*h+1:=by grind
     rw[e1,e2,e3]
     rw[e4]at h3
     omega
theorem KD{f L Q S:Nat}(hL:4<=L)(hQ:4<=Q)(hS:L+Q<=S+1):hF f L Q<=64*(S*S)+64:=by
 obtain⟨h,hh⟩:∃ h,h=L/2:=⟨_,rfl⟩
 have hE:=Po L (by omega) f
 have hc:=(yt (Q:=Q) (k:=h) (by omega)).2
 unfold hF
 rw[<-hh]
 obtain⟨P,hP⟩:∃ P,P=cd Q h:=⟨_,rfl⟩
 rw[<-hP]at hc ⊢
 have h1:P*eF f L<=P*(16*(L*L)):=Nat.mul_le_mul_left P hE
 have h2:L*L<=h*(4*h+5):=by
  have:L*L<=(2*h+1)*(2*h+1):=Nat.mul_le_mul (by omega) (by omega)
  have e1:(2*h+1)*(2*h+1)=4*(h*h)+4*h+1:=by grind
  have e2:h*(4*h+5)=4*(h*h)+5*h:=by grind
  omega
 have h3:P*(16*(L*L))<=16*((P*h)*(4*h+5)):=by
  have:=Nat.mul_le_mul_left P (Nat.mul_le_mul_left 16 h2)
  refine Nat.le_trans this (Nat.le_of_eq ?_)
  grind
 obtain⟨u,hu⟩:∃ u,u=Q+h-1:=⟨_,rfl⟩
 have h4:16*((P*h)*(4*h+5))<=16*(u*(4*h+5)):=Nat.mul_le_mul_left 16 (Nat.mul_le_mul_right _ (by omega))
 have e5:u*(4*h+5)=4*(u*h)+5*u:=by grind
 have h5:(u+h)*(u+h)<=S*S:=Nat.mul_le_mul (by omega) (by omega)
 have e6:(u+h)*(u+h)=u*u+2*(u*h)+h*h:=by grind
 have h7:5*u<=u*u:=Nat.mul_le_mul_right u (by omega)
 have h8:(Q+1)*(L+1)<=64*(S*S):=by
  have a1:(Q+1)*(L+1)<=(2*S)*(2*S):=Nat.mul_le_mul (by omega) (by omega)
  have a2:(2*S)*(2*S)=4*(S*S):=by grind
  omega
 generalize P*eF f L=X at *
 generalize P*(16*(L*L))=Y at *
 generalize (P*h)*(4*h+5)=Z at *
 omega
theorem Dh{a c:Nat}(h:1<=c):(a-c+1)*(c+1)<=64*(a*a)+64\/a<c:=by
 by_cases hlt:a<c
 ·exact Or.inr hlt
 ·left
  have a1:(a-c+1)*(c+1)<=(2*a)*(2*a):=Nat.mul_le_mul (by omega) (by omega)
  have a2:(2*a)*(2*a)=4*(a*a):=by grind
  omega
theorem Ib:∀ k:Nat,4096*nc k<=8*(k*k)+6400*k+16384:=by
 intro k
 induction k using Nat.strongRecOn with
 |_ k ih=>
  by_cases h:k<=60
  ·rw[pD h];omega
  ·rw[pC h]
   have IH:=ih (k/2+4) (by omega)
   obtain⟨y,hy⟩:∃ y,y=k/2:=⟨_,rfl⟩
   rw[<-hy]at IH ⊢
   have hs:4096*zt k<=8*((y+69)*(2*y+1+67)+(y+69)*(y+1+64)):=by
    unfold zt
    rw[<-hy]
    obtain⟨p,hp⟩:∃ p,p=(y+69)/64:=⟨_,rfl⟩
    obtain⟨q,hq⟩:∃ q,q=(k+67)/64:=⟨_,rfl⟩
    obtain⟨r,hr⟩:∃ r,r=(k+64-y)/64:=⟨_,rfl⟩
    rw[<-hp, <-hq, <-hr]
    have a1:(64*p)*(64*q)<=(y+69)*(2*y+1+67):=Nat.mul_le_mul (by omega) (by omega)
    have a2:(64*p)*(64*r)<=(y+69)*(y+1+64):=Nat.mul_le_mul (by omega) (by omega)
    have e1:(64*p)*(64*q)=4096*(p*q):=by grind
    have e2:(64*p)*(64*r)=4096*(p*r):=by grind
    omega
   have e1:(y+69)*(2*y+1+67)=2*(y*y)+206*y+4692:=by grind
   have e2:(y+69)*(y+1+64)=y*y+134*y+4485:=by grind
   have e3:(y+4)*(y+4)=y*y+8*y+16:=by grind
   have e4:(2*y)*(2*y)<=k*k:=Nat.mul_le_mul (by omega) (by omega)
   have e5:(2*y)*(2*y)=4*(y*y):=by grind
   rw[e1,e2]at hs
   rw[e3]at IH
   omega
end Go.Proofs.YtgcnhfgpflncaaaGreatDoor
/- DivWord of limb:by one word. -/
namespace Go.Proofs.YtgcnhfgpflncaaaGreatDoor
open Go.RowKit
set_option maxRecDepth 100000 in
set_option maxHeartbeats 1600000 in
theorem Ip(w:World)(u:Value)(m:Nat)(hu:aL w u m):
  Calls Tryz.prog 41 #[u] w fun e w'=>∃ us,cn us/\af us=m/\us.length<=1073741824/\e=.returned (.slice (some ⟨w.heap.size,0,none⟩) us.length us.length)/\aB w' w.heap.size us/\Below w.heap.size w w':=by
 obtain⟨ga,ba,oa,ca,us,rA,cA,vA,lA,CA⟩:=eb hu
 have CA:=hide CA
 obtain⟨la,hla⟩:∃ la,la=us.length:=⟨_,rfl⟩
 rw[<-hla]at CA lA
 have HLA:=hide hla
 clear hu hla
 go_enter Tryz.func41,Tryz.ntmps41
 go_wp2_with fail
 refine(ae CA).mono ?_
 rintro e w1 ⟨rfl,rfl⟩
 clear CA
 go_wp2_with fail
 refine(fV _ ga ba oa ca la us (ae HLA).symm (by omega) rA).mono ?_
 rintro e w3 ⟨rfl,k3,b3⟩
 go_wp2
 go_ret
 exact⟨us,cA,vA,by rw[<-ae HLA];exact lA,by rw[<-ae HLA];exact aQ rfl,k3,b3⟩
def mH(us zs:List Nat)(y k r:Nat):Prop:=zs.length=us.length/\ao zs/\r<y/\(∀ j,j<k->zs.getD j 0=us.getD j 0)/\af (us.drop k)=af (zs.drop k)*y+r
theorem drop_cons(xs:List Nat)(j:Nat)(h:j<xs.length):xs.drop j=xs.getD j 0 :: xs.drop (j+1):=by
 rw[List.drop_eq_getElem_cons h,getD_lt h]
theorem qk{us:List Nat}{y:Nat}(h:ao us)(hy:0<y):mH us us y us.length 0:=⟨rfl,h,hy,fun _ _=>rfl,by simp[af]⟩
theorem sr{us zs:List Nat}{y j r c Q R:Nat}(h:mH us zs y (j+1) r)(hj:j<us.length)(hy:y<18446744073709551616)(hc:c=zs.getD j 0)(hQ:Q=(18446744073709551616*r+c)/y)(hR:R=(18446744073709551616*r+c)%y):
  mH us (zs.set j Q) y j R/\Q<18446744073709551616:=by
 obtain⟨h1,h2,h3,h4,h5⟩:=h
 have hc64:c<18446744073709551616:=by rw[hc];exact h2 j
 have hQ64:Q<18446744073709551616:=by
  rw[hQ,Nat.div_lt_iff_lt_mul (by omega)]
  have:18446744073709551616*(r+1)<=18446744073709551616*y:=Nat.mul_le_mul_left _ h3
  omega
 refine⟨⟨by simpa using h1,bG h2 (by omega) hQ64,by rw[hR];exact Nat.mod_lt _ (by omega),fun i hi=>?_,?_⟩,hQ64⟩
 ·rw[fW _ _ _ _ (by omega),if_neg (by omega)]
  exact h4 i (by omega)
 ·have e1:(zs.set j Q).drop j=Q :: zs.drop (j+1):=by
   rw[drop_cons _ j (by simpa using (by omega:j<zs.length)),fW _ _ _ _ (by omega),if_pos rfl]
   congr 1
   rw[List.drop_set,if_pos (by omega)]
  have e2:us.drop j=c :: us.drop (j+1):=by rw[drop_cons us j hj,hc,h4 j (by omega)]
  have e3:Q*y+R=18446744073709551616*r+c:=by rw[hQ,hR];exact Nat.div_add_mod' _ _
  rw[e1,e2]
  simp only[af]
  rw[h5,Nat.add_mul,Nat.mul_assoc]
  generalize af (zs.drop (j+1))*y=T at *
  generalize Q*y=U at *
  omega
theorem x6{us zs:List Nat}{y r:Nat}(h:mH us zs y 0 r):af zs=af us/y/\r=af us%y:=by
 obtain⟨_,_,h3,_,h5⟩:=h
 rw[List.drop_zero,List.drop_zero]at h5
 rw[h5,Nat.mul_comm]
 constructor
 ·rw[Nat.mul_add_div (by omega),Nat.div_eq_of_lt h3,Nat.add_zero]
 ·rw[Nat.mul_add_mod,Nat.mod_eq_of_lt h3]
set_option maxRecDepth 100000 in
set_option maxHeartbeats 3200000 in
theorem mN(w:World)(u:Value)(m y:Nat)(hy0:0<y)(hy:y<18446744073709551616)(hu:aL w u m):
  Calls Tryz.prog 80 #[u,.int .u64 (y:Int)] w fun e w'=>∃ q,e=.returned (.tuple #[q,.int .u64 ((m%y:Nat):Int),.int .i64 0])/\ah w.heap.size w' q (m/y)/\Below w.heap.size w w':=by
 obtain⟨R,hR⟩:∃ R,R=m%y:=⟨_,rfl⟩
 obtain⟨Q,hQ⟩:∃ Q,Q=m/y:=⟨_,rfl⟩
 rw[<-hR, <-hQ]
 have HR:=hide hR
 have HQ:=hide hQ
 have hyz:((y:Int)==0)=false:=by rw[beq_eq_false_iff_ne];omega
 clear hR hQ
 go_enter Tryz.func80,Tryz.ntmps80
 go_wp2_with fail
 refine(Ip _ _ m hu).mono ?_
 rintro e w1 ⟨us,cU,vU,lU,rfl,k1,b1⟩
 obtain⟨la,hla⟩:∃ la,la=us.length:=⟨_,rfl⟩
 rw[<-hla]at lU ⊢
 have HLA:=hide hla
 have HVU:=hide vU
 clear hla hu vU
 go_wp2
 go_loopw [8,9] (fun rv i wr=>∃(k r:Nat) (zs:List Nat),k<=la/\rv=.int .u64 (r:Int)/\i=.int .i64 ((k:Int)-1)/\zs.length=la/\r<y/\aB wr w.heap.size zs/\Hid (mH us zs y k r)/\Below w.heap.size w wr)
  (fun _ i _=>(intOf i+1).toNat)
 case atStart=>exact⟨la,0,us,Nat.le_refl _,rfl,rfl,(ae HLA).symm,hy0,k1,by rw[ae HLA];exact qk cU.1 hy0,b1⟩
 case round=>
  obtain⟨k,r,zs,hk,rfl,rfl,hzl,hr,hBlk,hAt,hnx⟩:=hrel
  by_cases h0:k=0
  ·subst h0
   obtain⟨e1,e2⟩:=x6 hAt.out
   rw[ae HVU]at e1 e2
   have hq:af zs=Q:=by rw[ae HQ];exact e1
   have hr2:(r:Int)=(R:Int):=by rw[ae HR,e2]
   have hd:=hAt.out.2.1
   have HQ2:=hide hq
   have HR2:=hide hr2
   clear e1 e2 hq hr2 hAt
   go_wp2_with fail
   refine(d6 (B:=w.heap.size) hzl (by omega) (Nat.le_refl _) hBlk hd).mono ?_
   rintro e w6 ⟨q,rfl,hq,rfl⟩
   rw[ae HQ2]at hq
   go_wp2
   go_ret3
   exact⟨q,by rw[<-ae HR2];rfl,hq,hnx⟩
  ·obtain⟨j,rfl⟩:∃ j,k=j+1:=⟨k-1,by omega⟩
   have ej:((j+1:Nat):Int)-1=(j:Int):=by omega
   rw[ej]
   obtain⟨c,hc⟩:∃ c:Nat,c=zs.getD j 0:=⟨_,rfl⟩
   have cr:wr.cell? ⟨w.heap.size,j,none⟩=some (.int .u64 (c:Int)):=by rw[hc];exact hBlk.cell j (by omega)
   have hc64:c<18446744073709551616:=by rw[hc];exact hAt.out.2.1 j
   obtain⟨Qd,hQd⟩:∃ Qd,Qd=(18446744073709551616*r+c)/y:=⟨_,rfl⟩
   obtain⟨Rd,hRd⟩:∃ Rd,Rd=(18446744073709551616*r+c)%y:=⟨_,rfl⟩
   obtain⟨H2,hq64⟩:=sr hAt.out (by rw[<-ae HLA];omega) hy hc hQd hRd
   have hR2:=H2.2.2.1
   have H2:=hide H2
   have CD:=hide (fun w=>mE r c y Qd Rd w hr hc64 hy hQd hRd)
   clear hc hQd hRd hAt
   go_wp2_with fail
   refine(ae CD _).mono ?_
   rintro e w5 ⟨rfl,b5⟩
   have cr:=hBlk.next b5
   have cr2:=cr.cell j (by omega)
   have fr:=cr.frozen j
   have hnx:=hnx.trans (b5.mono hnx.size)
   clear b5
   go_wp2
   exact⟨⟨j,Rd,zs.set j Qd,by omega,rfl,by go_num,by simpa using hzl,hR2,cr.set j Qd,H2,hnx.setCell (Nat.le_refl _) _⟩,by simp[intOf]⟩
end Go.Proofs.YtgcnhfgpflncaaaGreatDoor
/- timesPlus,AddMul,MulWord and SubMul of limb:by one word. -/
namespace Go.Proofs.YtgcnhfgpflncaaaGreatDoor
open Go.RowKit
theorem ru{x y c:Nat}(hx:x<18446744073709551616)(hy:y<18446744073709551616)(hc:c<18446744073709551616):x*y+c<=18446744073709551616*18446744073709551615:=by
 have:x*y<=18446744073709551615*18446744073709551615:=Nat.mul_le_mul (by omega) (by omega)
 omega
set_option maxHeartbeats 800000 in
theorem pz(x y c P hi lo:Nat)(w:World)(hx:x<18446744073709551616)(hy:y<18446744073709551616)(hc:c<18446744073709551616)(hP:P=x*y+c)(hh:hi=P/18446744073709551616)(hl:lo=P%18446744073709551616):
  Calls Tryz.prog 106 #[.int .u64 (x:Int),.int .u64 (y:Int),.int .u64 (c:Int)] w fun e w'=>e=.returned (.tuple #[.int .u64 (hi:Int),.int .u64 (lo:Int)])/\w'=w:=by
 have hb:=ru hx hy hc
 have CM:=hide (fun w=>fw x y w hx hy)
 have hp2:x*y/18446744073709551616*18446744073709551616+x*y%18446744073709551616=x*y:=Nat.div_add_mod' _ _
 have hp3:x*y%18446744073709551616<18446744073709551616:=Nat.mod_lt _ (by omega)
 generalize x*y/18446744073709551616=h0 at *
 generalize x*y%18446744073709551616=l0 at *
 have CA:=hide (fun w=>ef l0 c 0 0 w (Or.inl ⟨rfl,rfl⟩))
 have e1:((l0+c+0)%18446744073709551616)=lo:=by omega
 have e2:h0+(l0+c+0)/18446744073709551616=hi:=by omega
 rw[e1]at CA
 have hlt:hi<18446744073709551616:=by omega
 generalize (l0+c+0)/18446744073709551616=o at *
 have e3:(h0:Int)+(o:Int)=(hi:Int):=by omega
 clear hb hP hh hl hp2 e1 e2 hx hy hc hp3
 go_enter Tryz.func106,Tryz.ntmps106
 go_wp2_with fail
 refine(ae CM _).mono ?_
 rintro e w1 ⟨rfl,rfl⟩
 go_wp2_with fail
 refine(ae CA _).mono ?_
 rintro e w2 ⟨rfl,rfl⟩
 go_wp2
 go_ret2
 exact⟨bF rfl rfl,rfl⟩
def sG(z0 zs bs:List Nat)(y k c:Nat):Prop:=zs.length=z0.length/\ao zs/\c<18446744073709551616/\af zs+18446744073709551616^k*c=af z0+y*af (bs.take k)
theorem yZ{z0:List Nat}(h:ao z0)(bs:List Nat)(y:Nat):sG z0 z0 bs y 0 0:=⟨rfl,h,by omega,by simp[af]⟩
theorem Dj{z0 zs bs:List Nat}{y k c r b P hi lo:Nat}(h:sG z0 zs bs y k c)(hk:k<zs.length)(hr:r=zs.getD k 0)(hb:b=bs.getD k 0)(hb64:b<18446744073709551616)(hy:y<18446744073709551616)(hP:P=b*y+c)(hh:hi=P/18446744073709551616)(hl:lo=P%18446744073709551616):
  sG z0 (zs.set k ((r+lo+0)%18446744073709551616)) bs y (k+1) ((r+lo+0)/18446744073709551616+hi):=by
 obtain⟨h1,h2,h3,h4⟩:=h
 have hr64:r<18446744073709551616:=by rw[hr];exact h2 _
 have hb':=ru hb64 hy h3
 rw[<-hP]at hb'
 refine⟨by simpa using h1,bG h2 hk (Nat.mod_lt _ (by omega)),by omega,?_⟩
 have hs:=cj zs k ((r+lo+0)%18446744073709551616) hk
 rw[<-hr]at hs
 have hPe:18446744073709551616*hi+lo=P:=by rw[hh,hl];exact Nat.div_add_mod _ _
 rw[ay, <-hb,Nat.mul_add y,Nat.pow_succ,Nat.mul_assoc,Nat.mul_left_comm y]
 have e:18446744073709551616^k*((r+lo+0)%18446744073709551616)+18446744073709551616^k*(18446744073709551616*((r+lo+0)/18446744073709551616+hi))=18446744073709551616^k*r+(18446744073709551616^k*(y*b)+18446744073709551616^k*c):=by
  rw[<-Nat.mul_add, <-Nat.mul_add, <-Nat.mul_add]
  congr 1
  rw[Nat.mul_comm y b]
  omega
 omega
theorem H7{us vs:List Nat}{y N:Nat}(h1:ao us)(h2:ao vs)(hy:y<18446744073709551616)(hN:N=max us.length vs.length+1):af us+y*af vs<18446744073709551616^N:=by
 have a:=fB (ak h1) (q:=N-1) (by omega)
 have b:=fB (ak h2) (q:=N-1) (by omega)
 have c:y*af vs<=18446744073709551615*(18446744073709551616^(N-1)-1):=Nat.mul_le_mul (by omega) (by omega)
 rw[show N=N-1+1 from by omega,Nat.pow_succ]
 omega
set_option maxRecDepth 100000 in
set_option maxHeartbeats 3200000 in
theorem oQ(w:World)(u v:Value)(m n y:Nat)(hy:y<18446744073709551616)(hu:aL w u m)(hv:aL w v n):
  Calls Tryz.prog 81 #[u,v,.int .u64 (y:Int)] w fun e w'=>∃ r,e=.returned r/\ah w.heap.size w' r (m+n*y)/\Below w.heap.size w w':=by
 obtain⟨ga,ba,oa,ca,us,rA,cA,vA,lA,CA⟩:=eb hu
 obtain⟨gb,bb,ob,cb,vs,rB,cB,vB,lB,CB⟩:=eb hv
 obtain⟨N,hN⟩:∃ N,N=max us.length vs.length+1:=⟨_,rfl⟩
 have hroom:=H7 cA.1 cB.1 hy hN
 have hbN:vs.length+1<=N:=by omega
 have hNb:N<=1073741825:=by omega
 have CA:=hide CA
 have CB:=hide CB
 have HN:=hide hN
 have hzl:(us++List.replicate (N-us.length) 0).length=N:=by simp;omega
 have hz0:af (us++List.replicate (N-us.length) 0)=m:=by rw[iK,vA]
 have dz0:=jR cA.1 (N-us.length)
 obtain⟨la,hla⟩:∃ la,la=us.length:=⟨_,rfl⟩
 obtain⟨lb,hlb⟩:∃ lb,lb=vs.length:=⟨_,rfl⟩
 rw[<-hla]at CA lA HN hzl hz0 dz0
 rw[<-hlb]at CB lB HN hbN
 have HLA:=hide hla
 have HLB:=hide hlb
 have HR:Hid (m+y*n<18446744073709551616^N):=by show _<_;rw[<-vA, <-vB];exact hroom
 have HVB:=hide vB
 have hbb:0<vs.length->bb<w.heap.size:=fun h=>rB.lt h
 have HBB:=hide hbb
 clear hu hv hN hroom hla hlb vA vB hbb
 go_enter Tryz.func81,Tryz.ntmps81
 go_wp2_with fail
 refine(ae CA).mono ?_
 rintro e w1 ⟨rfl,rfl⟩
 go_wp2_with fail
 refine(ae CB).mono ?_
 rintro e w2 ⟨rfl,rfl⟩
 clear CA CB
 go_wp2_with fail
 refine(su _ ga gb ba oa ca cb la lb N us (ae HLA).symm (by omega) (by omega) rA (ae HN)).mono ?_
 rintro e w3 ⟨rfl,k3,b3⟩
 generalize us++List.replicate (N-la) 0=z0 at *
 have rB:=rB.next b3
 have HZ0:=hide hz0
 have HZL:=hide hzl
 clear hz0 hzl
 go_wp2
 go_loopw [8,22] (fun c i wr=>∃(k cy:Nat) (zs:List Nat),k<=lb/\c=.int .u64 (cy:Int)/\i=.int .i64 (k:Int)/\cy<18446744073709551616/\aB wr w2.heap.size zs/\Hid (sG z0 zs vs y k cy)/\Rep wr gb bb ob cb vs/\Below w2.heap.size w2 wr)
  (fun _ i _=>lb-(intOf i).toNat)
 case atStart=>exact⟨0,0,z0,Nat.zero_le _,rfl,rfl,by omega,k3,yZ dz0 vs y,rB,b3⟩
 case round=>
  obtain⟨k,cy,zs,hk,rfl,rfl,hcy,hBlk,hAt,hRb,hnx⟩:=hrel
  have hzl:zs.length=N:=by rw[hAt.out.1];exact ae HZL
  by_cases h1:k<lb
  ·obtain rfl:=hRb.head (by rw[<-ae HLB];omega)
   obtain⟨b,hb⟩:∃ b:Nat,b=vs.getD k 0:=⟨_,rfl⟩
   have hb64:b<18446744073709551616:=by rw[hb];exact cB.1 k
   have cbk:wr.cell? ⟨bb,ob+k,none⟩=some (.int .u64 (b:Int)):=by rw[hb];exact hRb.cell k (by rw[<-ae HLB];omega)
   obtain⟨r,hr⟩:∃ r:Nat,r=zs.getD k 0:=⟨_,rfl⟩
   have cr:wr.cell? ⟨w2.heap.size,k,none⟩=some (.int .u64 (r:Int)):=by rw[hr];exact hBlk.cell k (by omega)
   have fr:=hBlk.frozen k
   obtain⟨P,hP⟩:∃ P,P=b*y+cy:=⟨_,rfl⟩
   obtain⟨hi,hh⟩:∃ hi,hi=P/18446744073709551616:=⟨_,rfl⟩
   obtain⟨lo,hl⟩:∃ lo,lo=P%18446744073709551616:=⟨_,rfl⟩
   have CT:=hide (fun w=>pz b y cy P hi lo w hb64 hy hcy hP hh hl)
   have H2:=hide (Dj hAt.out (by omega) hr hb hb64 hy hP hh hl)
   have CA:=hide (fun w=>ef r lo 0 0 w (Or.inl ⟨rfl,rfl⟩))
   have hc2:=(ae H2).2.2.1
   generalize (r+lo+0)%18446744073709551616=d at *
   generalize (r+lo+0)/18446744073709551616=c1 at *
   obtain⟨c2,hc2e⟩:∃ c2,c2=c1+hi:=⟨_,rfl⟩
   rw[<-hc2e]at H2 hc2
   have ec:(c1:Int)+(hi:Int)=(c2:Int):=by omega
   have hne:0<vs.length->bb≠w2.heap.size:=fun h=>by have:=ae HBB h;omega
   have HNE:=hide hne
   clear hr hb hP hh hl hc2e hne
   go_wp2_with fail
   refine(ae CT _).mono ?_
   rintro e w4 ⟨rfl,rfl⟩
   go_wp2_with fail
   refine(ae CA _).mono ?_
   rintro e w5 ⟨rfl,rfl⟩
   go_wp2
   exact⟨⟨k+1,c2,_,by omega,by first|rfl|exact congrArg (Value.int .u64) ec,by go_num,hc2,hBlk.set k d,H2,hRb.but (aj _ _ _ _) (ae HNE),hnx.setCell (Nat.le_refl _) _⟩,by simp[intOf];omega⟩
  ·obtain rfl:k=lb:=by omega
   obtain⟨M,hM⟩:∃ M,N=k+M:=⟨N-k,by omega⟩
   have hM1:1<=M:=by omega
   have hMs:N-k=M:=by omega
   have hNk:¬N=k:=by omega
   have hki2:0<=(k:Int)/\(k:Int)<=(N:Int):=by omega
   have htot:af zs+18446744073709551616^k*cy=m+y*n:=by
    have:=hAt.out.2.2.2
    rw[aK _ _ (by rw[<-ae HLB];omega),ae HZ0,ae HVB]at this
    exact this
   have dz:=hAt.out.2.1
   have hko:aB (wr.alloc (.cells #[.int .u64 (cy:Int)] 41)) wr.heap.size [cy]:=heap_alloc_new wr _
   have hro:=hko.rep 0 1 1 (by simp) (by omega)
   have hbA:Below wr.heap.size wr (wr.alloc (.cells #[.int .u64 (cy:Int)] 41)):=(Below.refl _ _).alloc (Nat.le_refl _) _
   have hgl:=hBlk.lt
   have CAT:=hide (mI _ w2.heap.size k M M wr.heap.size 0 1 1 (some ⟨wr.heap.size,0,none⟩) zs [cy] (by rw[hzl,hM]) rfl hM1 (by omega) (hBlk.next hbA) dz hro (xX hcy) (fun _=>by omega) (by rw[qu,htot, <-hM];exact ae HR))
   rw[qu,htot, <-hM]at CAT
   have hb5:=hnx.trans (hbA.mono hnx.size)
   have HB5:=hide hb5
   clear hko hro hbA htot dz hM hb5 hAt
   go_wp2_with fail
   refine(ae CAT).mono ?_
   rintro e w5 ⟨rfl,zs',hl5,hd5,k5,hv5,g5⟩
   have b5:=below_grown (ae HB5) g5 (Nat.le_refl _) (ae HB5).size
   clear CAT HB5 g5
   go_wp2_with fail
   refine(d6 (B:=w2.heap.size) hl5 (by omega) (Nat.le_refl _) k5 hd5).mono ?_
   rintro e w6 ⟨r,rfl,hr,rfl⟩
   rw[hv5,Nat.mul_comm y n]at hr
   go_wp2
   go_ret
   exact⟨r,rfl,hr,b5⟩
end Go.Proofs.YtgcnhfgpflncaaaGreatDoor
/- wordsAndPlaces and Shl of limb. -/
namespace Go.Proofs.YtgcnhfgpflncaaaGreatDoor
open Go.RowKit
theorem OM{a b c d:Int}(h:a=b)(h':c=d):Ending.returned (.tuple #[.int .i64 a,.int .i64 c])=.returned (.tuple #[.int .i64 b,.int .i64 d]):=by rw[h,h']
set_option maxHeartbeats 400000 in
theorem zL(z:Int)(k s t:Nat)(w:World)(hk:(k:Int)=min (max z 0) 1048576)(hs:s=k/64)(ht:t=k%64):
  Calls Tryz.prog 52 #[.int .i64 z] w fun e w'=>e=.returned (.tuple #[.int .i64 (s:Int),.int .i64 (t:Int)])/\w'=w:=by
 have CW:=hide (fun w=>lC z 1048576 k w hk)
 have es:(k:Int)/64=(s:Int):=by omega
 have et:(k:Int)%64=(t:Int):=by omega
 have hkb:k<=1048576:=by omega
 have ES:=hide es
 have ET:=hide et
 clear hk hs ht
 go_enter Tryz.func52,Tryz.ntmps52
 go_wp2_with fail
 refine(ae CW _).mono ?_
 rintro e w1 ⟨rfl,rfl⟩
 go_wp2
 go_ret2
 exact⟨OM (by first|rfl|exact ae ES) (by first|rfl|exact ae ET),rfl⟩
theorem Bc{x t c:Nat}(hx:x<18446744073709551616)(ht:t<64)(hc:c<2^t):
  ((x*2^t)%18446744073709551616)||| c=(x*2^t)%18446744073709551616+c/\(x*2^t)%18446744073709551616+c<18446744073709551616/\x/2^(64-t)<2^t/\
   (x*2^t)%18446744073709551616+18446744073709551616*(x/2^(64-t))=x*2^t:=by
 have hp:=im t (by omega)
 have hpos:0<2^t:=Nat.pow_pos (by omega)
 have hpos2:0<2^(64-t):=Nat.pow_pos (by omega)
 have e1:x*2^t%18446744073709551616=x%2^(64-t)*2^t:=by
  rw[<-hp,Nat.mul_mod_mul_right]
 have e2:x/2^(64-t)<2^t:=by rw[Nat.div_lt_iff_lt_mul hpos2,Nat.mul_comm,hp];exact hx
 have hm:=Nat.mod_lt x hpos2
 have hd:=Nat.div_add_mod x (2^(64-t))
 refine⟨?_,?_,e2,?_⟩
 ·rw[e1];exact y9 _ _ _ hc
 ·rw[e1]
  have h2:(x%2^(64-t)+1)*2^t<=2^(64-t)*2^t:=Nat.mul_le_mul_right _ hm
  rw[Nat.add_mul,Nat.one_mul,hp]at h2
  omega
 ·rw[e1, <-hp]
  have:x*2^t=(2^(64-t)*(x/2^(64-t))+x%2^(64-t))*2^t:=by rw[hd]
  rw[this,Nat.add_mul,Nat.mul_right_comm]
  omega
def oN(us zs:List Nat)(N s t k c:Nat):Prop:=zs.length=N/\ao zs/\c<2^t/\(∀ j,s+k<=j->zs.getD j 0=0)/\af zs+18446744073709551616^(s+k)*c=18446744073709551616^s*(2^t*af (us.take k))
theorem zM(us:List Nat)(N s t:Nat):oN us (List.replicate N 0) N s t 0 0:=by
 refine⟨by simp,(g8 N).1,Nat.pow_pos (by omega),fun j _=>?_,by rw[(g8 N).2];simp[af]⟩
 simp only[List.getD_eq_getElem?_getD,List.getElem?_replicate];split<;>rfl
theorem Fh{us zs:List Nat}{N s t k c x d c2:Nat}(h:oN us zs N s t k c)(hk:s+k<N)(hx:x=us.getD k 0)(hx64:x<18446744073709551616)(ht:t<64)(hd:d=(x*2^t)%18446744073709551616+c)(hc2:c2=x/2^(64-t)):
  oN us (zs.set (s+k) d) N s t (k+1) c2:=by
 obtain⟨h1,h2,h3,h4,h5⟩:=h
 obtain⟨e1,e2,e3,e4⟩:=Bc hx64 ht h3
 refine⟨by simpa using h1,bG h2 (by omega) (by rw[hd];exact e2),by rw[hc2];exact e3,fun j hj=>?_,?_⟩
 ·rw[fW _ _ _ _ (by omega),if_neg (by omega)];exact h4 j (by omega)
 ·have hs:=cj zs (s+k) d (by omega)
  rw[h4 _ (Nat.le_refl _),Nat.mul_zero,Nat.add_zero]at hs
  rw[hs,ay, <-hx, <-Nat.add_assoc s k 1,Nat.pow_succ,Nat.mul_assoc]
  have e5:18446744073709551616^(s+k)*d+18446744073709551616^(s+k)*(18446744073709551616*c2)=18446744073709551616^(s+k)*c+18446744073709551616^(s+k)*(x*2^t):=by
   rw[<-Nat.mul_add, <-Nat.mul_add,hd,hc2]
   congr 1
   omega
  have e6:18446744073709551616^s*(2^t*(af (us.take k)+18446744073709551616^k*x))=18446744073709551616^s*(2^t*af (us.take k))+18446744073709551616^(s+k)*(x*2^t):=by
   rw[Nat.mul_add,Nat.mul_add,Nat.pow_add,Nat.mul_left_comm (2^t),Nat.mul_comm (2^t) x,Nat.mul_assoc]
  omega
theorem JK{us zs:List Nat}{N s t k c:Nat}(h:oN us zs N s t k c)(hk:us.length<=k)(hN:s+k<N)(ht:t<64):ao (zs.set (s+k) c)/\af (zs.set (s+k) c)=af us*2^(64*s+t):=by
 obtain⟨h1,h2,h3,h4,h5⟩:=h
 have hc:c<18446744073709551616:=Nat.lt_of_lt_of_le h3 (by have:=Nat.pow_le_pow_right (n:=2) (by omega) (by omega:t<=64);omega)
 have hs:=cj zs (s+k) c (by omega)
 rw[h4 _ (Nat.le_refl _),Nat.mul_zero,Nat.add_zero]at hs
 refine⟨bG h2 (by omega) hc,?_⟩
 rw[hs,h5,aK _ _ hk,Nat.pow_add,Nat.pow_mul, <-Nat.mul_assoc,Nat.mul_comm (af us)]
set_option maxRecDepth 100000 in
set_option maxHeartbeats 3200000 in
theorem ir(w:World)(u:Value)(z:Int)(m k:Nat)(hz:(k:Int)=min (max z 0) 1048576)(hu:aL w u m):
  Calls Tryz.prog 57 #[u,.int .i64 z] w fun e w'=>∃ r,e=.returned r/\ah w.heap.size w' r (m*2^k)/\Below w.heap.size w w':=by
 obtain⟨ga,ba,oa,ca,us,rA,cA,vA,lA,CA⟩:=eb hu
 have CA:=hide CA
 obtain⟨la,hla⟩:∃ la,la=us.length:=⟨_,rfl⟩
 have hzero:=sD cA
 rw[vA]at hzero
 rw[<-hla]at CA lA hzero
 obtain⟨s,hs⟩:∃ s,s=k/64:=⟨_,rfl⟩
 obtain⟨t,ht⟩:∃ t,t=k%64:=⟨_,rfl⟩
 have CW:=hide (fun w=>zL z k s t w hz hs ht)
 have hkb:k<=1048576:=by omega
 have hsb:s<=16384:=by omega
 have ht64:t<64:=by omega
 have hke:k=64*s+t:=by omega
 have HKE:=hide hke
 have HLA:=hide hla
 have HVA:=hide vA
 by_cases h0:la=0
 ·have hm0:m=0:=hzero.1 h0
  subst hm0 h0
  clear hu hla hzero hs ht hke hz
  go_enter Tryz.func57,Tryz.ntmps57
  go_wp2_with fail
  refine(ae CA).mono ?_
  rintro e w1 ⟨rfl,rfl⟩
  clear CA
  go_wp2
  go_ret
  exact⟨_,rfl,by rw[Nat.zero_mul];exact me _ _,Below.refl _ _⟩
 ·have hnz:((la:Int)==0)=false:=by rw[beq_eq_false_iff_ne];omega
  obtain⟨N,hN⟩:∃ N,N=s+la+1:=⟨_,rfl⟩
  have hmk:=bX N N ((s:Int)+(la:Int)+1) (by omega) rfl (by omega)
  have hNb:N<=1073758209:=by omega
  have hNl:s+la+1<=N:=by omega
  obtain⟨t2,ht2⟩:∃ t2,t2=64-t:=⟨_,rfl⟩
  have et2:(64:Int)-(t:Int)=(t2:Int):=by omega
  have HT2:=hide ht2
  have hk0:aB (w.alloc (.cells (aF N).toArray 41)) w.heap.size (List.replicate N 0):=heap_alloc_new w _
  have hb0:Below w.heap.size w (w.alloc (.cells (aF N).toArray 41)):=(Below.refl _ _).alloc (Nat.le_refl _) _
  have HK0:=hide hk0
  have HB0:=hide hb0
  clear hu hla hzero hs ht hke hz h0 hN ht2 hk0 hb0
  go_enter Tryz.func57,Tryz.ntmps57
  go_wp2_with fail
  refine(ae CA).mono ?_
  rintro e w1 ⟨rfl,rfl⟩
  clear CA
  go_wp2_with fail
  refine(ae CW _).mono ?_
  rintro e w2 ⟨rfl,rfl⟩
  clear CW
  go_wp2
  clear hmk
  go_loopw [8,29] (fun c i wr=>∃(q cy:Nat) (zs:List Nat),q<=la/\c=.int .u64 (cy:Int)/\i=.int .i64 (q:Int)/\cy<18446744073709551616/\zs.length=N/\aB wr w2.heap.size zs/\Hid (oN us zs N s t q cy)/\Below w2.heap.size w2 wr)
   (fun _ i _=>la-(intOf i).toNat)
  case atStart=>exact⟨0,0,List.replicate N 0,Nat.zero_le _,rfl,rfl,by omega,by simp,ae HK0,zM us N s t,ae HB0⟩
  case round=>
   obtain⟨q,cy,zs,hq,rfl,rfl,hcy,hzl,hBlk,hAt,hnx⟩:=hrel
   clear HK0 HB0
   by_cases h1:q<la
   ·obtain rfl:=rA.head (by rw[<-ae HLA];omega)
    obtain⟨x,hx⟩:∃ x:Nat,x=us.getD q 0:=⟨_,rfl⟩
    have hx64:x<18446744073709551616:=by rw[hx];exact cA.1 q
    have cx:wr.cell? ⟨ba,oa+q,none⟩=some (.int .u64 (x:Int)):=by rw[hx];exact(hnx.cell (by exact rA.lt (by rw[<-ae HLA];omega))).trans (rA.cell q (by rw[<-ae HLA];omega))
    have cr:wr.cell? ⟨w2.heap.size,s+q,none⟩=some (.int .u64 (((zs.getD (s+q) 0:Nat)):Int)):=hBlk.cell (s+q) (by omega)
    have fr:=hBlk.frozen (s+q)
    have hc3:=hAt.out.2.2.1
    obtain⟨e1,e2,e3,e4⟩:=Bc hx64 ht64 hc3
    obtain⟨l,hl⟩:∃ l,l=x*2^t%18446744073709551616:=⟨_,rfl⟩
    have el:=tY x t
    rw[<-hl]at el e1 e2
    obtain⟨d,hd⟩:∃ d,d=l+cy:=⟨_,rfl⟩
    have hl64:l<18446744073709551616:=by omega
    have eo:=bits_or_u64_nat l cy hl64 hcy
    rw[e1, <-hd]at eo
    obtain⟨c2,hc2⟩:∃ c2,c2=x/2^t2:=⟨_,rfl⟩
    have es2:=fC x t2
    rw[<-hc2]at es2
    have H2:=hide (Fh (d:=d) (c2:=c2) hAt.out (by omega) hx hx64 ht64 (by rw[hd,hl]) (by rw[hc2,ae HT2]))
    have hc64:c2<18446744073709551616:=by rw[hc2];exact Nat.lt_of_le_of_lt (Nat.div_le_self _ _) hx64
    clear hx hl hd hc2 e1 e2 e3 e4 hc3 hAt
    go_wp2
    exact⟨⟨q+1,c2,zs.set (s+q) d,by omega,rfl,by go_num,hc64,by simpa using hzl,hBlk.set (s+q) d,H2,hnx.setCell (Nat.le_refl _) _⟩,by simp[intOf];omega⟩
   ·obtain rfl:q=la:=by omega
    have cr:wr.cell? ⟨w2.heap.size,s+q,none⟩=some (.int .u64 (((zs.getD (s+q) 0:Nat)):Int)):=hBlk.cell (s+q) (by omega)
    have fr:=hBlk.frozen (s+q)
    obtain⟨hd,hv⟩:=JK hAt.out (by rw[<-ae HLA];omega) (by omega) ht64
    rw[ae HVA, <-ae HKE]at hv
    have k5:=hBlk.set (s+q) cy
    have HV:=hide hv
    have HK5:=hide k5
    have HB5:=hide (hnx.setCell (p:=⟨w2.heap.size,s+q,none⟩) (Nat.le_refl _) (.int .u64 (cy:Int)))
    have HL5:Hid ((zs.set (s+q) cy).length=N):=by show _=_;simpa using hzl
    clear hv k5 hAt
    go_wp2_with fail
    refine(d6 (B:=w2.heap.size) (ae HL5) (by omega) (Nat.le_refl _) (ae HK5) hd).mono ?_
    rintro e w6 ⟨r,rfl,hr,rfl⟩
    rw[ae HV]at hr
    go_wp2
    go_ret
    exact⟨r,rfl,hr,ae HB5⟩
end Go.Proofs.YtgcnhfgpflncaaaGreatDoor
/- Shr of limb. -/
namespace Go.Proofs.YtgcnhfgpflncaaaGreatDoor
open Go.RowKit
theorem Rep.dropS{w:World}{b o cap s:Nat}{xs:List Nat}(h:Rep w (some ⟨b,o,none⟩) b o cap xs)(hs:s<=xs.length):Rep w (some ⟨b,o+s,none⟩) b (o+s) (cap-s) (xs.drop s):=by
 have hl:(xs.drop s).length=xs.length-s:=by simp
 refine⟨fun _=>rfl,by have:=h.room;omega,fun j hj=>?_⟩
 have e:(xs.drop s).getD j 0=xs.getD (s+j) 0:=by simp[List.getD_eq_getElem?_getD]
 rw[e,Nat.add_assoc]
 exact h.cell (s+j) (by omega)
theorem BK{c r t:Nat}(hc:c<18446744073709551616)(ht:t<64)(hr:r<2^t):
  (c/2^t)||| (r*2^(64-t))=(18446744073709551616*r+c)/2^t/\r*2^(64-t)<18446744073709551616/\c*2^(64-t)%18446744073709551616=((18446744073709551616*r+c)%2^t)*2^(64-t):=by
 have hp:=im t (by omega)
 have hpos:0<2^t:=Nat.pow_pos (by omega)
 have h1:c/2^t<2^(64-t):=by rw[Nat.div_lt_iff_lt_mul hpos,hp];exact hc
 have h2:(r+1)*2^(64-t)<=2^t*2^(64-t):=Nat.mul_le_mul_right _ hr
 have e0:18446744073709551616*r=2^t*(r*2^(64-t)):=by
  rw[<-hp,Nat.mul_comm (2^(64-t)),Nat.mul_assoc,Nat.mul_comm r]
 have hpos2:0<2^(64-t):=Nat.pow_pos (by omega)
 rw[Nat.add_mul,Nat.one_mul,Nat.mul_comm (2^t),hp]at h2
 refine⟨?_,by omega,?_⟩
 ·rw[Nat.or_comm,y9 r (c/2^t) (64-t) h1,e0,Nat.mul_add_div hpos]
 ·rw[e0,Nat.mul_add_mod, <-hp,Nat.mul_comm (2^(64-t)) (2^t),Nat.mul_mod_mul_right]
theorem qx{xs:List Nat}(h:ao xs)(s t:Nat):af (xs.drop s)/2^t=af xs/2^(64*s+t):=by
 rw[Nat.pow_add, <-Nat.div_div_eq_div_mul,Nat.pow_mul]
 congr 1
 have hv:=bq xs s
 have hl:=ei h s
 rw[hv,show(2:Nat)^64=18446744073709551616 from rfl,Nat.add_mul_div_left _ _ (bI s),Nat.div_eq_of_lt hl,Nat.zero_add]
set_option maxRecDepth 100000 in
set_option maxHeartbeats 3200000 in
theorem gi(w:World)(u:Value)(z:Int)(m k:Nat)(hz:(k:Int)=min (max z 0) 1048576)(hu:aL w u m):
  Calls Tryz.prog 36 #[u,.int .i64 z] w fun e w'=>∃ r,e=.returned r/\ah w.heap.size w' r (m/2^k)/\Below w.heap.size w w':=by
 obtain⟨ga,ba,oa,ca,xs,rfl,rA,dA,vA,lA⟩:=hu
 obtain⟨la,hla⟩:∃ la,la=xs.length:=⟨_,rfl⟩
 have hroom:=rA.room
 rw[<-hla]at lA hroom ⊢
 obtain⟨s,hs⟩:∃ s,s=k/64:=⟨_,rfl⟩
 obtain⟨t,ht⟩:∃ t,t=k%64:=⟨_,rfl⟩
 have CW:=hide (fun w=>zL z k s t w hz hs ht)
 have ht64:t<64:=by omega
 have hke:k=64*s+t:=by omega
 have hval:af (xs.drop s)/2^t=m/2^k:=by rw[qx dA, <-hke,vA]
 have HVL:=hide hval
 have HLA:=hide hla
 by_cases h0:la<=s
 ·have h0i:(la:Int)<=(s:Int):=by omega
  have hz0:Hid (m/2^k=0):=by
   show _=_
   rw[<-hval,List.drop_eq_nil_of_le (by omega),show af []=0 from rfl,Nat.zero_div]
  clear hla hs ht hke hz hval vA
  go_enter Tryz.func36,Tryz.ntmps36
  go_wp2_with fail
  refine(ae CW _).mono ?_
  rintro e w2 ⟨rfl,rfl⟩
  clear CW
  go_wp2
  go_ret
  exact⟨_,rfl,by rw[ae hz0];exact me _ _,Below.refl _ _⟩
 ·have h0i:¬(la:Int)<=(s:Int):=by omega
  obtain rfl:=rA.head (by omega)
  obtain⟨M,hM⟩:∃ M,la=s+M:=⟨la-s,by omega⟩
  have hMs:la-s=M:=by omega
  have hcs:¬ca=s:=by omega
  have hsi:0<=(s:Int)/\(s:Int)<=(la:Int):=by omega
  obtain⟨cc,hcc⟩:∃ cc,cc=ca-s:=⟨_,rfl⟩
  have rD:=rA.dropS (s:=s) (by omega)
  rw[<-hcc]at rD
  have hcc2:ca-s=cc:=hcc.symm
  have dD:=aU dA s
  have hdl:(xs.drop s).length=M:=by simp;omega
  obtain⟨t2,ht2⟩:∃ t2,t2=64-t:=⟨_,rfl⟩
  have et2:(64:Int)-(t:Int)=(t2:Int):=by omega
  have HT2:=hide ht2
  have hp0:0<2^t:=Nat.pow_pos (by omega)
  have hp64:2^t<18446744073709551616:=by
   have:=Nat.pow_le_pow_right (n:=2) (by omega) (by omega:t<=63)
   omega
  have HP64:=hide hp64
  have hMb:M<=1073741824:=by omega
  clear hla hs ht hke hz hval vA ht2 hM hcc hp64 rA hroom dA
  generalize xs.drop s=os at *
  have HDL:=hide hdl
  clear hdl
  go_enter Tryz.func36,Tryz.ntmps36
  go_wp2_with fail
  refine(ae CW _).mono ?_
  rintro e w2 ⟨rfl,rfl⟩
  clear CW
  go_wp2_with fail
  refine(fV _ _ ba (oa+s) cc M os (ae HDL) (by omega) rD).mono ?_
  rintro e w3 ⟨rfl,k3,b3⟩
  go_wp2
  go_loopw [8,9] (fun c i wr=>∃(q r cy:Nat) (zs:List Nat),q<=M/\c=.int .u64 (cy:Int)/\i=.int .i64 ((q:Int)-1)/\cy<18446744073709551616/\zs.length=M/\aB wr w2.heap.size zs/\Hid (cy=r*2^t2)/\Hid (mH os zs (2^t) q r)/\Below w2.heap.size w2 wr)
   (fun _ i _=>(intOf i+1).toNat)
  case atStart=>exact⟨M,0,0,os,Nat.le_refl _,rfl,rfl,by omega,ae HDL,k3,by show 0=0*_;rw[Nat.zero_mul],by rw[<-ae HDL];exact qk dD hp0,b3⟩
  case round=>
   obtain⟨q,r,cy,zs,hq,rfl,rfl,hcy,hzl,hBlk,hCy,hAt,hnx⟩:=hrel
   by_cases h1:q=0
   ·subst h1
    obtain⟨e1,_⟩:=x6 hAt.out
    rw[ae HVL]at e1
    have hd:=hAt.out.2.1
    have HE:=hide e1
    clear e1 hAt hCy
    go_wp2_with fail
    refine(d6 (B:=w2.heap.size) hzl (by omega) (Nat.le_refl _) hBlk hd).mono ?_
    rintro e w6 ⟨v,rfl,hv,rfl⟩
    rw[ae HE]at hv
    go_wp2
    go_ret
    exact⟨v,rfl,hv,hnx⟩
   ·obtain⟨j,rfl⟩:∃ j,q=j+1:=⟨q-1,by omega⟩
    have ej:((j+1:Nat):Int)-1=(j:Int):=by omega
    rw[ej]
    obtain⟨c,hc⟩:∃ c:Nat,c=zs.getD j 0:=⟨_,rfl⟩
    have cr:wr.cell? ⟨w2.heap.size,j,none⟩=some (.int .u64 (c:Int)):=by rw[hc];exact hBlk.cell j (by omega)
    have fr:=hBlk.frozen j
    have hc64:c<18446744073709551616:=by rw[hc];exact hAt.out.2.1 j
    obtain⟨Q,hQ⟩:∃ Q,Q=(18446744073709551616*r+c)/2^t:=⟨_,rfl⟩
    obtain⟨R,hR⟩:∃ R,R=(18446744073709551616*r+c)%2^t:=⟨_,rfl⟩
    obtain⟨H2,hq64⟩:=sr hAt.out (by rw[ae HDL];omega) (ae HP64) hc hQ hR
    obtain⟨f1,f2,f3⟩:=BK hc64 ht64 hAt.out.2.2.1
    rw[<-ae HT2, <-hCy.out, <-hQ]at f1
    rw[<-ae HT2, <-hR]at f3
    have H2:=hide H2
    obtain⟨a,ha⟩:∃ a,a=c/2^t:=⟨_,rfl⟩
    have es:=fC c t
    rw[<-ha]at es f1
    have ha64:a<18446744073709551616:=by rw[ha];exact Nat.lt_of_le_of_lt (Nat.div_le_self _ _) hc64
    have eo:=bits_or_u64_nat a cy ha64 hcy
    rw[f1]at eo
    have el:=tY c t2
    obtain⟨c2,hc2⟩:∃ c2,c2=c*2^t2%18446744073709551616:=⟨_,rfl⟩
    rw[<-hc2]at el f3
    have hc2b:c2<18446744073709551616:=by rw[hc2];exact Nat.mod_lt _ (by omega)
    have HF3:=hide f3
    clear hc hQ hR f1 f2 f3 ha hc2 hAt hCy
    go_wp2
    exact⟨⟨j,R,c2,zs.set j Q,by omega,rfl,by go_num,hc2b,by simpa using hzl,hBlk.set j Q,HF3,H2,hnx.setCell (Nat.le_refl _) _⟩,by simp[intOf]⟩
end Go.Proofs.YtgcnhfgpflncaaaGreatDoor
/- Split of limb. -/
namespace Go.Proofs.YtgcnhfgpflncaaaGreatDoor
open Go.RowKit
theorem aL.drew{w:World}{v:Value}{n:Nat}(h:aL w v n):aL w.drew v n:=by
 obtain⟨ga,b,o,cap,xs,rfl,hr,hd,hv,hl⟩:=h
 exact⟨ga,b,o,cap,xs,rfl,hr.drew,hd,hv,hl⟩
theorem iW(w:World)(ga:Option Addr)(cap:Nat):aL w (.slice ga 0 cap) 0:=⟨ga,0,0,cap,[],rfl,Rep.nil _ _ _ _ _,qj,rfl,by simp⟩
theorem ki{w:World}{ga:Option Addr}{cap n:Nat}(h:aL w (.slice ga 0 cap) n):n=0:=by
 obtain⟨ga2,b,o,cap2,xs,he,_,_,hv,_⟩:=h
 have hl:xs.length=0:=by injection he with _ h2 _;exact h2.symm
 obtain rfl:xs=[]:=List.length_eq_zero_iff.1 hl
 exact hv.symm
def Bj(w:World)(LO HI:Nat)(e:Ending)(w':World):Prop:=∃ lo hi B1 M1 B2 M2,e=.returned (.tuple #[lo,hi])/\aS B1 M1 w' lo LO/\aS B2 M2 w' hi HI/\w.heap.size<=B1/\w.heap.size<=B2/\M1<=w'.heap.size/\M2<=w'.heap.size/\(M1<=B2\/M2<=B1)/\Below w.heap.size w w'
set_option maxRecDepth 100000 in
set_option maxHeartbeats 3200000 in
theorem AG(w:World)(u:Value)(z:Int)(m k:Nat)(hz:(k:Int)=min (max z 0) 16384)(hu:aL w u m):
  Calls Tryz.prog 185 #[u,.int .i64 z] w (Bj w (m%18446744073709551616^k) (m/18446744073709551616^k)):=by
 have CW:=hide (fun w=>lC z 16384 k w hz)
 obtain⟨ga,ba,oa,ca,xs,rfl,rA,dA,vA,lA⟩:=hu
 obtain⟨la,hla⟩:∃ la,la=xs.length:=⟨_,rfl⟩
 have hroom:=rA.room
 rw[<-hla]at lA hroom ⊢
 obtain⟨s,hs⟩:∃ s,s=min k la:=⟨_,rfl⟩
 have hmin:min (k:Int) (la:Int)=(s:Int):=by omega
 have hv:=bq xs s
 have hl:=ei dA s
 have hvLo:af (xs.take s)=m%18446744073709551616^k:=by
  by_cases h:k<=la
  ·obtain rfl:s=k:=by omega
   rw[<-vA,hv,Nat.add_mul_mod_self_left,Nat.mod_eq_of_lt hl]
  ·have h1:=fB (ak dA) (q:=k) (by omega)
   rw[List.take_of_length_le (by omega),vA,Nat.mod_eq_of_lt (by rw[<-vA];exact h1)]
 have hvHi:af (xs.drop s)=m/18446744073709551616^k:=by
  by_cases h:k<=la
  ·obtain rfl:s=k:=by omega
   rw[<-vA,hv,Nat.add_mul_div_left _ _ (bI s),Nat.div_eq_of_lt hl,Nat.zero_add]
  ·have h1:=fB (ak dA) (q:=k) (by omega)
   rw[List.drop_eq_nil_of_le (by omega),Nat.div_eq_of_lt (by rw[<-vA];exact h1)]
   rfl
 have hsla:s<=la:=by omega
 generalize m%18446744073709551616^k=LO at *
 generalize m/18446744073709551616^k=HI at *
 have iLo:aL w (.slice ga s ca) LO:=⟨ga,ba,oa,ca,xs.take s,by rw[List.length_take,Nat.min_eq_left (by omega)],rA.take s (by omega),aX dA s,hvLo,by simp;omega⟩
 have hHi:∀ ga2 c2,(ga=some ⟨ba,oa,none⟩->s<la->ga2=some ⟨ba,oa+s,none⟩/\c2=ca-s)->aL w (.slice ga2 (la-s) c2) HI:=fun ga2 c2 h=>by
  by_cases h0:s<la
  ·have hg:=rA.head (by omega)
   obtain⟨rfl,rfl⟩:=h hg h0
   subst hg
   exact⟨_,ba,oa+s,_,xs.drop s,by rw[List.length_drop,hla],rA.dropS (by omega),aU dA s,hvHi,by simp;omega⟩
  ·have e:la-s=0:=by omega
   rw[List.drop_eq_nil_of_le (by omega)]at hvHi
   have hH0:HI=0:=hvHi.symm
   rw[e,hH0]
   exact iW _ _ _
 have hsi:0<=(s:Int)/\(s:Int)<=(la:Int):=by omega
 have hsi2:0<=(s:Int)/\(s:Int)<=(ca:Int):=by omega
 have hnil:0<la->ga=some ⟨ba,oa,none⟩:=fun h=>rA.head (by omega)
 have hlt:s<la->¬ca=s:=fun h=>by omega
 obtain⟨M,hM⟩:∃ M,la-s=M:=⟨_,rfl⟩
 rw[hM]at hHi
 obtain⟨cc,hcc⟩:∃ cc,ca-s=cc:=⟨_,rfl⟩
 clear hv hl hvLo hvHi hs hla vA rA dA hz
 have bl:=Below.refl w.heap.size w
 cases ga with
 |none=>
  obtain rfl:la=0:=by
   refine Nat.eq_zero_of_not_pos fun h=>?_
   have:=hnil h
   cases this
  obtain rfl:s=0:=by omega
  obtain rfl:M=0:=by omega
  have hmin0:min (k:Int) 0=0:=by omega
  obtain rfl:HI=0:=ki (hHi none 0 (fun _ h=>absurd h (by omega)))
  obtain rfl:LO=0:=ki iLo
  have T1:Hid True:=trivial
  clear hnil hlt hHi iLo hmin hsi hsi2 hM hcc hroom
  go_enter Tryz.func185,Tryz.ntmps185
  go_wp2_with fail
  refine(ae CW _).mono ?_
  rintro e w1 ⟨rfl,rfl⟩
  clear CW
  go_wp2
  go_region_with (first
    |(go_at_call 41;clear T1;refine(dW _ _ 0 ?_).mono ?_;exact iW _ _ _;rintro e wL ⟨lo,rfl,nlo,bL⟩;have nlo:=nlo.born;have bl:=(by exact ag bl.drew bL:Below w1.heap.size w1 wL))
    |(go_at_call 41;refine(dW _ _ 0 ?_).mono ?_;exact iW _ _ _;rintro e wH ⟨hi,rfl,nhi,bH⟩;have nhi:=nhi.born;have nlo:=nlo.next bH;have bl:=(by exact ag bl bH:Below w1.heap.size w1 wH)))
  all_goals
   go_wp2
   go_ret2
   first
    |exact⟨lo,hi,_,_,_,_,rfl,nlo,nhi,Nat.le_refl _,bL.size,bH.size,Nat.le_refl _,Or.inl (Nat.le_refl _),bl⟩
    |exact⟨hi,lo,_,_,_,_,rfl,nhi,nlo,bL.size,Nat.le_refl _,Nat.le_refl _,bH.size,Or.inr (Nat.le_refl _),bl⟩
 |some x=>
  by_cases h0:la=0
  ·subst h0
   by_cases hc0:ca=0
   ·subst hc0
    obtain rfl:s=0:=by omega
    obtain rfl:M=0:=by omega
    have hmin0:min (k:Int) 0=0:=by omega
    obtain rfl:HI=0:=ki (hHi none 0 (fun _ h=>absurd h (by omega)))
    obtain rfl:LO=0:=ki iLo
    have T1:Hid True:=trivial
    clear hnil hlt hHi iLo hmin hsi hsi2 hM hcc hroom
    go_enter Tryz.func185,Tryz.ntmps185
    go_wp2_with fail
    refine(ae CW _).mono ?_
    rintro e w1 ⟨rfl,rfl⟩
    clear CW
    go_wp2
    go_region_with (first
      |(go_at_call 41;clear T1;refine(dW _ _ 0 ?_).mono ?_;exact iW _ _ _;rintro e wL ⟨lo,rfl,nlo,bL⟩;have nlo:=nlo.born;have bl:=(by exact ag bl.drew bL:Below w1.heap.size w1 wL))
      |(go_at_call 41;refine(dW _ _ 0 ?_).mono ?_;exact iW _ _ _;rintro e wH ⟨hi,rfl,nhi,bH⟩;have nhi:=nhi.born;have nlo:=nlo.next bH;have bl:=(by exact ag bl bH:Below w1.heap.size w1 wH)))
    all_goals
     go_wp2
     go_ret2
     first
      |exact⟨lo,hi,_,_,_,_,rfl,nlo,nhi,Nat.le_refl _,bL.size,bH.size,Nat.le_refl _,Or.inl (Nat.le_refl _),bl⟩
      |exact⟨hi,lo,_,_,_,_,rfl,nhi,nlo,bL.size,Nat.le_refl _,Nat.le_refl _,bH.size,Or.inr (Nat.le_refl _),bl⟩
   ·skip
    obtain rfl:s=0:=by omega
    obtain rfl:M=0:=by omega
    have hmin0:min (k:Int) 0=0:=by omega
    obtain rfl:HI=0:=ki (hHi none 0 (fun _ h=>absurd h (by omega)))
    obtain rfl:LO=0:=ki iLo
    have T1:Hid True:=trivial
    clear hnil hlt hHi iLo hmin hsi hsi2 hM hcc hroom
    go_enter Tryz.func185,Tryz.ntmps185
    go_wp2_with fail
    refine(ae CW _).mono ?_
    rintro e w1 ⟨rfl,rfl⟩
    clear CW
    go_wp2
    go_region_with (first
      |(go_at_call 41;clear T1;refine(dW _ _ 0 ?_).mono ?_;exact iW _ _ _;rintro e wL ⟨lo,rfl,nlo,bL⟩;have nlo:=nlo.born;have bl:=(by exact ag bl.drew bL:Below w1.heap.size w1 wL))
      |(go_at_call 41;refine(dW _ _ 0 ?_).mono ?_;exact iW _ _ _;rintro e wH ⟨hi,rfl,nhi,bH⟩;have nhi:=nhi.born;have nlo:=nlo.next bH;have bl:=(by exact ag bl bH:Below w1.heap.size w1 wH)))
    all_goals
     go_wp2
     go_ret2
     first
      |exact⟨lo,hi,_,_,_,_,rfl,nlo,nhi,Nat.le_refl _,bL.size,bH.size,Nat.le_refl _,Or.inl (Nat.le_refl _),bl⟩
      |exact⟨hi,lo,_,_,_,_,rfl,nhi,nlo,bL.size,Nat.le_refl _,Nat.le_refl _,bH.size,Or.inr (Nat.le_refl _),bl⟩
  ·cases hnil (by omega)
   by_cases hcs:ca=s
   ·subst hcs
    obtain rfl:cc=0:=by omega
    have iHi:=hHi (some ⟨ba,oa,none⟩) 0 (fun _ h=>absurd rfl (hlt h))
    have hMz:ca-ca=0:=by omega
    clear hcc
    clear hnil hlt hHi
    go_enter Tryz.func185,Tryz.ntmps185
    go_wp2_with fail
    refine(ae CW _).mono ?_
    rintro e w1 ⟨rfl,rfl⟩
    clear CW
    go_wp2
    go_region_with (first
      |(go_at_call_of 41 (Value.slice (some ⟨ba,oa,none⟩) ca ca);refine(dW _ _ LO ?_).mono ?_;(first|exact iLo.drew|exact iLo);rintro e wL ⟨lo,rfl,nlo,bL⟩;have nlo:=nlo.born;(try have nhi:=nhi.next bL);(try have iHi:=(by first|exact iHi.drew.next bL|exact iHi.next bL:aL wL (Value.slice (some ⟨ba,oa,none⟩) M 0) HI));have bl:=(by first|exact ag bl.drew bL|exact ag bl bL:Below w1.heap.size w1 wL))
      |(go_at_call_of 41 (Value.slice (some ⟨ba,oa,none⟩) M 0);refine(dW _ _ HI ?_).mono ?_;(first|exact iHi.drew|exact iHi);rintro e wH ⟨hi,rfl,nhi,bH⟩;have nhi:=nhi.born;(try have nlo:=nlo.next bH);(try have iLo:=(by first|exact iLo.drew.next bH|exact iLo.next bH:aL wH (Value.slice (some ⟨ba,oa,none⟩) ca ca) LO));have bl:=(by first|exact ag bl.drew bH|exact ag bl bH:Below w1.heap.size w1 wH)))
    all_goals
     go_wp2
     go_ret2
     first
      |exact⟨lo,hi,_,_,_,_,rfl,nlo,nhi,Nat.le_refl _,bL.size,bH.size,Nat.le_refl _,Or.inl (Nat.le_refl _),bl⟩
      |exact⟨lo,hi,_,_,_,_,rfl,nlo,nhi,bH.size,Nat.le_refl _,Nat.le_refl _,bL.size,Or.inr (Nat.le_refl _),bl⟩
   ·have iHi:=hHi (some ⟨ba,oa+s,none⟩) cc (fun _ _=>⟨rfl,hcc.symm⟩)
    clear hnil hlt hHi
    go_enter Tryz.func185,Tryz.ntmps185
    go_wp2_with fail
    refine(ae CW _).mono ?_
    rintro e w1 ⟨rfl,rfl⟩
    clear CW
    go_wp2
    go_region_with (first
      |(go_at_call_of 41 (Value.slice (some ⟨ba,oa,none⟩) s ca);refine(dW _ _ LO ?_).mono ?_;(first|exact iLo.drew|exact iLo);rintro e wL ⟨lo,rfl,nlo,bL⟩;have nlo:=nlo.born;(try have nhi:=nhi.next bL);(try have iHi:=(by first|exact iHi.drew.next bL|exact iHi.next bL:aL wL (Value.slice (some ⟨ba,oa+s,none⟩) M cc) HI));have bl:=(by first|exact ag bl.drew bL|exact ag bl bL:Below w1.heap.size w1 wL))
      |(go_at_call_of 41 (Value.slice (some ⟨ba,oa+s,none⟩) M cc);refine(dW _ _ HI ?_).mono ?_;(first|exact iHi.drew|exact iHi);rintro e wH ⟨hi,rfl,nhi,bH⟩;have nhi:=nhi.born;(try have nlo:=nlo.next bH);(try have iLo:=(by first|exact iLo.drew.next bH|exact iLo.next bH:aL wH (Value.slice (some ⟨ba,oa,none⟩) s ca) LO));have bl:=(by first|exact ag bl.drew bH|exact ag bl bH:Below w1.heap.size w1 wH)))
    all_goals
     go_wp2
     go_ret2
     first
      |exact⟨lo,hi,_,_,_,_,rfl,nlo,nhi,Nat.le_refl _,bL.size,bH.size,Nat.le_refl _,Or.inl (Nat.le_refl _),bl⟩
      |exact⟨lo,hi,_,_,_,_,rfl,nlo,nhi,bH.size,Nat.le_refl _,Nat.le_refl _,bL.size,Or.inr (Nat.le_refl _),bl⟩
end Go.Proofs.YtgcnhfgpflncaaaGreatDoor
/- The reference's transform,by its definition. -/
namespace Go.Proofs.YtgcnhfgpflncaaaGreatDoor
open Go.RowKit
end Go.Proofs.YtgcnhfgpflncaaaGreatDoor
/- The reference's Reds and Conv. -/
namespace Go.Proofs.YtgcnhfgpflncaaaGreatDoor
open Go.RowKit
def jy(p m x:Nat)(ys:List Nat)(i:Nat)(zs:List Nat):Nat->List Nat
 |0=>zs
 |j+1=>(jy p m x ys i zs j).set ((i+j)%m) (ad p ((jy p m x ys i zs j).getD ((i+j)%m) 0) (ml p x (ys.getD j 0)))
def oZ(p m:Nat)(xs ys:List Nat):Nat->List Nat
 |0=>List.replicate m 0
 |i+1=>jy p m (xs.getD i 0) ys i (oZ p m xs ys i) ys.length
def uY(p m:Nat)(xs ys:List Nat):List Nat:=oZ p m xs ys xs.length
theorem jz(p m x:Nat)(ys:List Nat)(i:Nat)(zs:List Nat):∀ j,(jy p m x ys i zs j).length=zs.length
 |0=>rfl
 |j+1=>by unfold jy;rw[List.length_set,jz p m x ys i zs j]
theorem iU(p m:Nat)(xs ys:List Nat):∀ i,(oZ p m xs ys i).length=m
 |0=>by simp[oZ]
 |i+1=>by unfold oZ;rw[jz,iU p m xs ys i]
theorem Ab{p m x:Nat}{ys zs:List Nat}{i:Nat}(hm:0<m)(hl:zs.length=m)(k:Nat)(hk:k<m):∀ j,Cg p ((jy p m x ys i zs j).getD k 0:Int) ((zs.getD k 0:Int)+sI j fun t=>if (i+t)%m=k then (x:Int)*aT ys t else 0)
 |0=>Cg.of_eq (by show _=(zs.getD k 0:Int)+0;rw[Int.add_zero];rfl)
 |j+1=>by
  have ih:=Ab (p:=p) (x:=x) (ys:=ys) (i:=i) hm hl k hk j
  have hlen:(jy p m x ys i zs j).length=m:=by rw[jz,hl]
  have hq:(i+j)%m<m:=Nat.mod_lt _ hm
  show Cg p (((jy p m x ys i zs j).set ((i+j)%m) (ad p ((jy p m x ys i zs j).getD ((i+j)%m) 0) (ml p x (ys.getD j 0)))).getD k 0:Int) ((zs.getD k 0:Int)+((sI j fun t=>if (i+t)%m=k then (x:Int)*aT ys t else 0)+if (i+j)%m=k then (x:Int)*aT ys j else 0))
  by_cases e:(i+j)%m=k
  ·rw[if_pos e,e]
   have:((jy p m x ys i zs j).set k (ad p ((jy p m x ys i zs j).getD k 0) (ml p x (ys.getD j 0)))).getD k 0=ad p ((jy p m x ys i zs j).getD k 0) (ml p x (ys.getD j 0)):=by
    simp[hlen,hk]
   rw[this]
   refine(FI p _ _).trans (((ih.add (vP p _ _))).trans (Cg.of_eq ?_))
   show _+_+(x:Int)*((ys.getD j 0:Nat):Int)=_
   unfold aT
   omega
  ·rw[if_neg e]
   have:((jy p m x ys i zs j).set ((i+j)%m) (ad p ((jy p m x ys i zs j).getD ((i+j)%m) 0) (ml p x (ys.getD j 0)))).getD k 0=(jy p m x ys i zs j).getD k 0:=by
    simp[List.getElem?_set_ne e]
   rw[this,Int.add_zero]
   exact ih
theorem o8{p m:Nat}{xs ys:List Nat}(hm:0<m)(k:Nat)(hk:k<m):∀ i,Cg p ((oZ p m xs ys i).getD k 0:Int) (sI i fun s=>sI ys.length fun t=>if (s+t)%m=k then aT xs s*aT ys t else 0)
 |0=>Cg.of_eq (by show(((List.replicate m 0).getD k 0:Nat):Int)=0;simp[hk])
 |i+1=>by
  refine(Ab hm (iU p m xs ys i) k hk ys.length).trans ?_
  exact(o8 hm k hk i).add (Cg.refl _ _)
theorem Ac{p m x:Nat}{ys zs:List Nat}{i:Nat}(hp:0<p)(hz:∀ k,zs.getD k 0<p):∀ j k,(jy p m x ys i zs j).getD k 0<p
 |0,k=>hz k
 |j+1,k=>by
  unfold jy
  have ih:=Ac (m:=m) (x:=x) (ys:=ys) (i:=i) hp hz j
  generalize (i+j)%m=q
  rw[List.getD_eq_getElem?_getD,List.getElem?_set]
  split
  ·split
   ·exact Nat.mod_lt _ hp
   ·exact hp
  ·have:=ih k
   rwa [List.getD_eq_getElem?_getD]at this
theorem vj{p m:Nat}{xs ys:List Nat}(hp:0<p):∀ i k,(oZ p m xs ys i).getD k 0<p
 |0,k=>by
  show(List.replicate m 0).getD k 0<p
  rw[List.getD_eq_getElem?_getD,List.getElem?_replicate]
  split<;>exact hp
 |i+1,k=>Ac hp (vj hp i) ys.length k
end Go.Proofs.YtgcnhfgpflncaaaGreatDoor
/- Package conv:Carry. -/
namespace Go.Proofs.YtgcnhfgpflncaaaGreatDoor
open Go.RowKit
def tri(g k:Nat):Value:=.slice (some ⟨g,k*3,none⟩) 3 3
def kG(g:Nat):Nat->List Value
 |0=>[]
 |k+1=>kG g k++[tri g k]
theorem iF(g:Nat):∀ k,(kG g k).length=k
 |0=>rfl
 |k+1=>by simp[kG,iF g k]
theorem AX(g:Nat):∀ {q k:Nat},k<q->(kG g q).getD k undef=tri g k
 |0,_,h=>absurd h (by omega)
 |q+1,k,h=>by
  have hl:=iF g q
  unfold kG
  rw[List.getD_eq_getElem?_getD]
  by_cases hk:k<q
  ·rw[List.getElem?_append_left (by omega), <-List.getD_eq_getElem?_getD]
   exact AX g hk
  ·obtain rfl:k=q:=by omega
   rw[List.getElem?_append_right (by omega),hl,Nat.sub_self]
   rfl
theorem Jv(g q k:Nat)(h:k<q):(kG g k++mW (q-k)).set k (tri g k)=kG g (k+1)++mW (q-(k+1)):=by
 have hl:=iF g k
 rw[List.set_append_right _ _ (by omega),hl,Nat.sub_self]
 obtain⟨m,hm⟩:∃ m,q-k=m+1:=⟨q-k-1,by omega⟩
 have hm2:q-(k+1)=m:=by omega
 rw[hm,hm2]
 show kG g k++(List.replicate (m+1) _).set 0 (tri g k)=(kG g k++[tri g k])++List.replicate m _
 rw[List.replicate_succ,List.set_cons_zero,List.append_assoc]
 rfl
theorem OY{w:World}{g q k:Nat}{T:Nat->Nat}(h:g9 w g q T)(hk:k<q):aL w (tri g k) (T k):=by
 obtain⟨t0,t1,t2,a0,a1,a2,e,c0,c1,c2⟩:=h k hk
 refine⟨_,g,k*3,3,[t0,t1,t2],rfl,⟨fun _=>rfl,by simp,fun j hj=>?_⟩,?_,by rw[O4];exact e,by simp⟩
 ·have hj:j<3:=hj
  match j,hj with
  |0,_=>exact c0
  |1,_=>exact c1
  |2,_=>exact c2
 ·intro j
  match j with
  |0=>exact a0
  |1=>exact a1
  |2=>exact a2
  |j+3=>exact Nat.zero_lt_succ _
def rowOf(T:Nat->Nat)(q:Nat):List Nat:=(List.range q).map T
theorem Ei(T:Nat->Nat)(q:Nat):(rowOf T q).length=q:=by simp[rowOf]
theorem xe(T:Nat->Nat){q k:Nat}(h:k<q):(rowOf T q).getD k 0=T k:=by simp[rowOf,h]
theorem pt(T:Nat->Nat){q:Nat}:∀ k,k<=q->dV 1 (rowOf T q) k=sN k fun i=>T i*18446744073709551616^i
 |0,_=>rfl
 |k+1,h=>by
  show dV 1 (rowOf T q) k+_=sN k _+T k*18446744073709551616^k
  rw[pt T k (by omega),xe T (by omega),Nat.one_mul,Nat.mul_comm]
theorem EY{w:World}{g gp q:Nat}{T:Nat->Nat}(h:g9 w g q T)(hv:fM w gp (kG g q) 29):ju w (some ⟨gp,0,none⟩) gp 0 (kG g q) (rowOf T q):=by
 have hl:=iF g q
 refine⟨fun _=>rfl,by rw[Ei,hl],fun j hj=>?_,fun j hj=>?_⟩
 ·rw[Nat.zero_add];exact hv.cell j hj
 ·rw[hl]at hj
  rw[AX g hj,xe T hj]
  exact OY h hj
set_option maxRecDepth 100000 in
set_option maxHeartbeats 3200000 in
theorem qX(w:World)(ga:Option Addr)(g C q:Nat)(T:Nat->Nat)(hq:q<=1048576)(hg:0<q->ga=some ⟨g,0,none⟩)(hq2:q<=65536)(hC:q<=C)(hT:g9 w g q T):
  Calls Tryz.prog 140 #[.slice ga q C] w fun e w'=>∃ r,e=.returned r/\ah w.heap.size w' r (sN q fun k=>T k*18446744073709551616^k)/\Below w.heap.size w w':=by
 have hmk:=Dl q hq
 have HT:Hid (∀ W,Below w.heap.size w W->g9 W g q T):=fun W b=>hT.next b
 have hv0:fM (w.alloc (.cells (mW q).toArray 29)) w.heap.size (kG g 0++mW (q-0)) 29:=heap_alloc_new w _
 have bl:Below w.heap.size w (w.alloc (.cells (mW q).toArray 29)):=(Below.refl _ _).alloc (Nat.le_refl _) _
 obtain⟨W1,hW1⟩:∃ W1,w.alloc (.cells (mW q).toArray 29)=W1:=⟨_,rfl⟩
 rw[hW1]at hv0 bl
 obtain⟨G,hG⟩:∃ G,w.heap.size=G:=⟨_,rfl⟩
 rw[hG]at hv0
 have HG:=hide hG
 have HV:=hide hv0
 have BL:=hide bl
 clear hT hv0 bl
 go_enter Tryz.func140,Tryz.ntmps140
 go_wp2
 clear hW1 hG hmk
 go_loopw [10] (fun iv wr=>∃ k:Nat,k<=q/\iv=.int .i64 (k:Int)/\fM wr G (kG g k++mW (q-k)) 29/\Below w.heap.size w wr) (fun iv _=>q-(intOf iv).toNat)
 case atStart=>exact⟨0,Nat.zero_le _,rfl,ae HV,ae BL⟩
 case round=>
  clear HV BL
  obtain⟨k,hk,rfl,hV,hb⟩:=hrel
  by_cases h1:k<q
  ·obtain rfl:=hg (by omega)
   have hl:(kG g k++mW (q-k)).length=q:=by rw[List.length_append,iF];simp[mW];omega
   have cv:=hV.cell k (by omega)
   have fv:=hV.frozen k
   have V2:=hide (hV.set k (tri g k))
   rw[Jv g q k h1]at V2
   have B2:=hide (hb.setCell (p:=⟨G,k,none⟩) (Nat.le_of_eq (ae HG)) (tri g k))
   have hmm:Hid (q-(k+1)<q-k):=by show _<_;omega
   unfold tri at V2 B2
   clear hV hb hl
   go_wp2
   go_roundw
   case rel=>exact⟨k+1,by omega,by go_num,ae V2,ae B2⟩
   case measure=>simp[intOf];have:=ae hmm;omega
  ·obtain rfl:k=q:=by omega
   have hV':fM wr G (kG g k) 29:=by
    have:=hV
    rw[Nat.sub_self]at this
    simpa [mW]using this
   have hP:=EY (ae HT _ hb) hV'
   have CJ:=hide (mR wr (some ⟨G,0,none⟩) G 0 k k 1 1 (kG g k) (rowOf T k) (iF g k) hq2 (by decide) hP)
   rw[pt T k (Nat.le_refl _)]at CJ
   have BL:=hide hb
   have SZ:=hide hb.size
   clear hV hV' hP hb
   obtain⟨S,hS⟩:∃ S,S=sN k fun i=>T i*18446744073709551616^i:=⟨_,rfl⟩
   rw[<-hS]at CJ
   have HS:=hide hS
   clear hS
   go_wp2_with fail
   refine(ae CJ).mono ?_
   rintro e w2 ⟨r,rfl,nr,b⟩
   have bl:=ag (ae BL) b
   have nr:=nr.mono (ae SZ)
   clear CJ b
   go_wp2
   go_ret
   exact⟨r,rfl,by rw[<-ae HS];exact nr,bl⟩
end Go.Proofs.YtgcnhfgpflncaaaGreatDoor
/- Low of limb. -/
namespace Go.Proofs.YtgcnhfgpflncaaaGreatDoor
open Go.RowKit
theorem JM{xs:List Nat}(h:ao xs)(s t:Nat)(ht:t<64)(hs:s<xs.length):af (xs.take s)+18446744073709551616^s*(xs.getD s 0%2^t)=af xs%2^(64*s+t):=by
 have hv:=bq xs s
 have hl:=ei h s
 have hd:xs.drop s=xs.getD s 0 :: xs.drop (s+1):=drop_cons xs s hs
 have hp:=im t (by omega)
 have e1:af (xs.drop s)%2^t=xs.getD s 0%2^t:=by
  rw[hd]
  simp only[af]
  rw[<-hp,Nat.mul_comm (2^(64-t)),Nat.mul_assoc,Nat.add_mul_mod_self_left]
 rw[Nat.pow_add,Nat.pow_mul,show(2:Nat)^64=18446744073709551616 from rfl,Nat.mod_mul]
 have e2:af xs%18446744073709551616^s=af (xs.take s):=by rw[hv,Nat.add_mul_mod_self_left,Nat.mod_eq_of_lt hl]
 have e3:af xs/18446744073709551616^s=af (xs.drop s):=by rw[hv,Nat.add_mul_div_left _ _ (bI s),Nat.div_eq_of_lt hl,Nat.zero_add]
 rw[e2,e3,e1]
theorem FN(a t:Nat)(ha:a<18446744073709551616)(ht:t<64):bits .and .u64 (a:Int) ((2^t-1:Nat):Int)=((a%2^t:Nat):Int):=by
 have hb:2^t-1<18446744073709551616:=by
  have:=Nat.pow_le_pow_right (n:=2) (by omega) (by omega:t<=63)
  omega
 rw[bits_and_u64_nat a _ ha hb,Nat.and_two_pow_sub_one_eq_mod]
theorem Av(t:Nat)(ht:t<64):IntKind.u64.wrap (2^t)=((2^t:Nat):Int):=by
 have:=Nat.pow_le_pow_right (n:=2) (by omega) (by omega:t<=63)
 rw[fq]
 generalize 2^t=p at *
 rw[IntKind.wrap_u64];omega
set_option maxRecDepth 100000 in
set_option maxHeartbeats 3200000 in
theorem Nc(w:World)(u:Value)(z:Int)(m k:Nat)(hz:(k:Int)=min (max z 0) 1048576)(hu:aL w u m):
  Calls Tryz.prog 54 #[u,.int .i64 z] w fun e w'=>∃ r,e=.returned r/\ah w.heap.size w' r (m%2^k)/\Below w.heap.size w w':=by
 have HU:=hide hu
 obtain⟨ga,ba,oa,ca,xs,rfl,rA,dA,vA,lA⟩:=hu
 obtain⟨la,hla⟩:∃ la,la=xs.length:=⟨_,rfl⟩
 have hroom:=rA.room
 rw[<-hla]at lA hroom HU ⊢
 obtain⟨s,hs⟩:∃ s,s=k/64:=⟨_,rfl⟩
 obtain⟨t,ht⟩:∃ t,t=k%64:=⟨_,rfl⟩
 have CW:=hide (fun w=>zL z k s t w hz hs ht)
 have ht64:t<64:=by omega
 have hke:k=64*s+t:=by omega
 have HLA:=hide hla
 by_cases h0:la<=s
 ·have h0i:(la:Int)<=(s:Int):=by omega
  have hmm:Hid (m%2^k=m):=by
   refine Nat.mod_eq_of_lt ?_
   have h1:=ak dA
   rw[vA]at h1
   have h2:18446744073709551616^xs.length<=2^k:=by
    rw[show(18446744073709551616:Nat)=2^64 from rfl, <-Nat.pow_mul]
    exact Nat.pow_le_pow_right (by omega) (by omega)
   omega
  clear hla hs ht hke hz vA
  go_enter Tryz.func54,Tryz.ntmps54
  go_wp2_with fail
  refine(ae CW _).mono ?_
  rintro e w2 ⟨rfl,rfl⟩
  clear CW
  go_wp2_with fail
  refine(dW _ _ m (ae HU)).mono ?_
  rintro e w3 ⟨r,rfl,hr,hb⟩
  go_wp2
  go_ret
  exact⟨r,rfl,by rw[ae hmm];exact hr,hb⟩
 ·have h0i:¬(la:Int)<=(s:Int):=by omega
  have hval:=JM dA s t ht64 (by omega)
  rw[vA, <-hke]at hval
  have hs1:(s:Int)+1<=(ca:Int):=by omega
  have rT:=rA.take (s+1) (by omega)
  have dT:=aX dA (s+1)
  have hTl:(xs.take (s+1)).length=s+1:=by simp;omega
  obtain⟨x,hx⟩:∃ x,x=xs.getD s 0:=⟨_,rfl⟩
  have hx64:x<18446744073709551616:=by rw[hx];exact dA s
  have hxT:(xs.take (s+1)).getD s 0=x:=by
   rw[hx];simp[List.getD_eq_getElem?_getD]
  obtain⟨d,hd⟩:∃ d,d=x%2^t:=⟨_,rfl⟩
  have hdx:d<=x:=by rw[hd];exact Nat.mod_le _ _
  have hset:Hid (af ((xs.take (s+1)).set s d)=m%2^k):=by
   show _=_
   have h1:=cj (xs.take (s+1)) s d (by omega)
   rw[hxT,ay, <-hx]at h1
   rw[<-hval, <-hx, <-hd]
   omega
  have em:=FN x t hx64 ht64
  have e1:=Av t ht64
  rw[<-hd]at em
  have hp0:0<2^t:=Nat.pow_pos (by omega)
  have hpb:2^t<18446744073709551616:=by
   have:=Nat.pow_le_pow_right (n:=2) (by omega) (by omega:t<=63)
   omega
  obtain⟨p,hp⟩:∃ p,p=2^t:=⟨_,rfl⟩
  rw[<-hp]at em e1 hp0 hpb
  have ep:((p-1:Nat):Int)=(p:Int)-1:=by omega
  rw[ep]at em
  have HP:=hide hp
  have HPB:=hide hpb
  have ew:IntKind.u64.wrap ((p:Int)-1)=(p:Int)-1:=by rw[IntKind.wrap_u64];omega
  have dS:=bG dT (k:=s) (d:=d) (by omega) (by omega)
  clear hla hs ht hke hz vA rA hroom dA hval hx hd hp hpb ep
  generalize xs.take (s+1)=ts at *
  go_enter Tryz.func54,Tryz.ntmps54
  go_wp2_with fail
  refine(ae CW _).mono ?_
  rintro e w2 ⟨rfl,rfl⟩
  clear CW
  go_wp2_with fail
  refine(fV _ _ ba oa ca (s+1) ts hTl (by omega) rT).mono ?_
  rintro e w3 ⟨rfl,k3,b3⟩
  have cr:=k3.cell s (by omega)
  rw[hxT]at cr
  have fr:=k3.frozen s
  go_wp2
  go_region
  all_goals
   go_wp2_with fail
   refine(d6 (B:=w2.heap.size) (zs:=ts.set s d) (by simpa using hTl) (by omega) (Nat.le_refl _) (by exact k3.set s d) dS).mono ?_
   rintro e w6 ⟨r,rfl,hr,rfl⟩
   rw[ae hset]at hr
   go_wp2
   go_ret
   exact⟨r,rfl,hr,(b3.setCell (p:=⟨w2.heap.size,s,none⟩) (Nat.le_refl _) (.int .u64 (d:Int))).drew⟩
end Go.Proofs.YtgcnhfgpflncaaaGreatDoor
/- The square root of a word. Written by gen_g.py. -/
namespace Go.Proofs.YtgcnhfgpflncaaaGreatDoor
open Go.RowKit
theorem Ff{x v r:Nat}(hr:bU 2 x r)(hv:r<=v)(h0:0<v):x/v<=v+2:=by
 have h1:x<(v+1)*(v+1):=by
  have:=hr.2
  rw[Nat.pow_two]at this
  exact Nat.lt_of_lt_of_le this (Nat.mul_le_mul (by omega) (by omega))
 rw[ub]at h1
 refine Nat.le_of_lt_succ ((Nat.div_lt_iff_lt_mul h0).2 ?_)
 rw[Nat.succ_eq_add_one,Nat.add_mul,Nat.add_mul]
 omega
set_option maxRecDepth 100000 in
set_option maxHeartbeats 1600000 in
theorem ux(w:World)(x r:Nat)(h0:0<x)(hx:x<18446744073709551616)(hr:bU 2 x r):
  Calls Tryz.prog 33 #[.int .u64 (x:Int)] w fun e w'=>e=.returned (.int .u64 (r:Int))/\w'=w:=by
 obtain⟨b1,b2,b3,b4⟩:=eG 64 x hx hx h0
 have CL:=hide (km (x:Int) w (by omega) (by omega))
 rw[Int.toNat_natCast]at CL
 have hf:=zK b4 hr
 obtain⟨B,hB⟩:∃ B,B=Lib.bitLen x:=⟨_,rfl⟩
 rw[<-hB]at b1 b2 CL hf
 clear b3 b4 hB
 obtain⟨C,hC⟩:∃ C,C=B+1:=⟨_,rfl⟩
 obtain⟨h,hh⟩:∃ h,h=C/2:=⟨_,rfl⟩
 rw[<-hC, <-hh]at hf
 have i1:(B:Int)+1=(C:Int):=by omega
 have i2:IntKind.i64.wrap (C:Int)=(C:Int):=by rw[IntKind.wrap_i64];omega
 have i3:(C:Int).tdiv 2=(h:Int):=by rw[Int.tdiv_eq_ediv_of_nonneg (by omega)];omega
 have i3':(C:Int)/2=(h:Int):=by omega
 have i4:IntKind.i64.wrap (h:Int)=(h:Int):=by rw[IntKind.wrap_i64];omega
 have i5:=Av h (by omega)
 have h32:h<=32:=by omega
 have i6:2^h<=4294967296:=by
  have:=Nat.pow_le_pow_right (n:=2) (by omega) (by omega:h<=32)
  omega
 have i7:((2:Int)^h)=((2^h:Nat):Int):=fq h
 have hh0:(0:Int)<=(h:Int):=by omega
 have HR:=hide hr
 have HX:=hide hx
 have HX0:=hide h0
 rw[i7]at i5
 go_enter Tryz.func33,Tryz.ntmps33
 go_wp2_with fail
 refine(ae CL).mono ?_
 rintro e w1 ⟨rfl,hw⟩
 obtain rfl:=hw.symm
 clear hw CL hr hx h0 b1 b2 hC hh
 have HF:=hide hf
 obtain⟨X0,hX0⟩:∃ X0,X0=2^h:=⟨_,rfl⟩
 rw[<-hX0]at i5 i6 i7 HF
 clear hX0 hf
 go_wp2
 go_loopw [3] (fun xv wr=>∃(v:Nat),Hid (r<=v)/\v<=4294967296/\xv=.int .u64 (v:Int)/\wr=w) (fun xv _=>(intOf xv).toNat)
 case atStart=>exact⟨X0,HF,i6,rfl,rfl⟩
 case round=>
  obtain⟨v,hv,hv2,rfl,rfl⟩:=hrel
  have hr0:0<r:=by
   refine Nat.pos_of_ne_zero fun e=>?_
   have:=(ae HR).2
   rw[e]at this
   have:=ae HX0
   simp at *
   omega
  have hv0:0<v:=Nat.lt_of_lt_of_le hr0 (ae hv)
  obtain⟨Q,hQ⟩:∃ Q,Q=x/v:=⟨_,rfl⟩
  have hQ2:=Ff (ae HR) (ae hv) hv0
  obtain⟨t,ht⟩:∃ t,t=v+Q:=⟨_,rfl⟩
  obtain⟨y,hy⟩:∃ y,y=t/2:=⟨_,rfl⟩
  rw[<-hQ]at hQ2
  have j0:((v:Int)==0)=false:=by simp only[beq_eq_false_iff_ne];omega
  have j0':¬(v:Int)=0:=by omega
  have j1:(x:Int).tdiv (v:Int)=(Q:Int):=by rw[Int.tdiv_eq_ediv_of_nonneg (by omega),hQ];rfl
  have j1':(x:Int)/(v:Int)=(Q:Int):=by rw[hQ];rfl
  have j2:IntKind.u64.wrap (Q:Int)=(Q:Int):=by rw[IntKind.wrap_u64];omega
  have j3:(v:Int)+(Q:Int)=(t:Int):=by omega
  have j4:IntKind.u64.wrap (t:Int)=(t:Int):=by rw[IntKind.wrap_u64];omega
  have j5:(t:Int).tdiv 2=(y:Int):=by rw[Int.tdiv_eq_ediv_of_nonneg (by omega),hy];rfl
  have j5':(t:Int)/2=(y:Int):=by omega
  have j6:IntKind.u64.wrap (y:Int)=(y:Int):=by rw[IntKind.wrap_u64];omega
  have hyx:y=(v+x/v)/2:=by rw[hy,ht,hQ]
  have hlow:=JH hv0 (ae HR)
  rw[<-hyx]at hlow
  by_cases hc:v<=y
  ·have he:=JG hv0 (ae hv) (ae HR) (by rw[<-hyx];exact hc)
   have hci:(v:Int)<=(y:Int):=by omega
   have HEE:=hide he
   clear hc he hlow hyx hy ht hQ hQ2 hr0 hv0 hv HR HX HX0 HF
   go_wp2
   go_ret
   exact⟨ax (by rw[ae HEE]),rfl⟩
  ·have hci:¬(v:Int)<=(y:Int):=by omega
   have HL:=hide hlow
   have hym:y<v:=by omega
   have HM:=hide hym
   have hyb:y<=4294967296:=by omega
   clear hc hlow hyx hy ht hQ hQ2 hr0 hv0 hv HR HX HX0 HF hym
   go_wp2
   go_roundw
   case rel=>exact⟨y,HL,hyb,rfl,by first|rfl|trivial⟩
   case measure=>simp[intOf];exact ae HM
end Go.Proofs.YtgcnhfgpflncaaaGreatDoor
