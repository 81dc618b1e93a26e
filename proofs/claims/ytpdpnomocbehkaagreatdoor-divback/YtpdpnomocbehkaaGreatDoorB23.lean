/- Plain mathematics of a division binary digit by binary digit. -/
import Derived.Test.YtpdpnomocbehkaaGreatDoorB20
import Derived.Test.YtpdpnomocbehkaaGreatDoorB8
import Derived.Test.YtpdpnomocbehkaaGreatDoorB6
import Derived.Test.YtpdpnomocbehkaaGreatDoorB5
namespace Go.Proofs.YtpdpnomocbehkaaGreatDoor
structure nU(A D k:Nat)(rs qs:List Nat):Prop where
 dr:gZ rs
 dq:gZ qs
 r:val rs=A/2^k%D
 q:val qs=A/2^k/D*2^k
theorem tj(n:Nat):val (List.replicate n 0)=0:=by
 have:=(nI [] [] n).2.2.2
 simpa [val]using this
theorem ti(n:Nat):gZ (List.replicate n 0):=(nI [] [] n).2.1
theorem Cm{A D k n m:Nat}(h:A<2^k):nU A D k (List.replicate n 0) (List.replicate m 0):=
 ⟨ti _,ti _,by rw[Nat.div_eq_of_lt h,tj];simp,by rw[Nat.div_eq_of_lt h,tj];simp⟩
theorem AG(A i:Nat):A/2^i=2*(A/2^(i+1))+A/2^i%2:=by
 rw[Nat.pow_succ, <-Nat.div_div_eq_div_mul];omega
theorem wv{P D b:Nat}(hb:b<=1)(hD:0<D):
  (D<=2*(P%D)+b->(2*P+b)/D=2*(P/D)+1/\(2*P+b)%D=2*(P%D)+b-D)/\(2*(P%D)+b<D->(2*P+b)/D=2*(P/D)/\(2*P+b)%D=2*(P%D)+b):=by
 have hm:=Nat.mod_lt P hD
 have e:=Nat.div_add_mod P D
 have e2:2*P+b=(2*(P%D)+b)+D*(2*(P/D)):=by
  have:D*(2*(P/D))=2*(D*(P/D)):=Nat.mul_left_comm _ _ _
  omega
 generalize P%D=R at *
 generalize P/D=Q at *
 constructor
 ·intro h
  have e3:2*P+b=(2*R+b-D)+D*(2*Q+1):=by rw[Nat.mul_add];omega
  rw[e3]
  exact⟨by rw[Nat.add_mul_div_left _ _ hD,Nat.div_eq_of_lt (by omega)];omega,by rw[Nat.add_mul_mod_self_left];exact Nat.mod_eq_of_lt (by omega)⟩
 ·intro h
  rw[e2]
  exact⟨by rw[Nat.add_mul_div_left _ _ hD,Nat.div_eq_of_lt h];omega,by rw[Nat.add_mul_mod_self_left];exact Nat.mod_eq_of_lt h⟩
theorem sS(Q i:Nat):Q*2^(i+1)=2*Q*2^i:=by rw[Nat.pow_succ,Nat.mul_comm (2^i) 2, <-Nat.mul_assoc,Nat.mul_comm Q 2]
theorem NY{A D i:Nat}{rs qs rs':List Nat}(hD:0<D)(h:nU A D (i+1) rs qs)(dr':gZ rs')(hX:2*val rs+A/2^i%2<D)(hr:val rs'=2*val rs+A/2^i%2):nU A D i rs' qs:=by
 have hh:=(wv (P:=A/2^(i+1)) (b:=A/2^i%2) (by omega) hD).2 (by rw[<-h.r];exact hX)
 rw[<-AG]at hh
 refine⟨dr',h.dq,by rw[hr,hh.2,h.r],?_⟩
 rw[h.q,hh.1,sS]
theorem rR{A D i:Nat}{rs qs:List Nat}(h:nU A D (i+1) rs qs):qs.getD (i/32) 0||| 2^(i%32)=qs.getD (i/32) 0+2^(i%32)/\qs.getD (i/32) 0+2^(i%32)<4294967296:=by
 have hz:=zd qs (i/32) h.dq
 have ht:i%32<32:=Nat.mod_lt _ (by omega)
 have e:2^(i+1)=2^(i%32+1)*4294967296^(i/32):=by rw[AZ, <-Nat.pow_add];congr 1;omega
 have e2:(4294967296:Nat)=2^(31-i%32)*2^(i%32+1):=by rw[<-Nat.pow_add,show 31-i%32+(i%32+1)=32 from by omega]
 rw[h.q,e, <-Nat.mul_assoc,Nat.mul_div_cancel _ (Nat.pow_pos (by omega))]at hz
 generalize A/(2^(i%32+1)*4294967296^(i/32))/D=Q at hz
 generalize i%32=t at *
 have hz2:qs.getD (i/32) 0=Q%2^(31-t)*2^(t+1):=by
  rw[hz]
  conv=>lhs;rw[e2]
  rw[Nat.mul_mod_mul_right]
 have hu:Q%2^(31-t)<2^(31-t):=Nat.mod_lt _ (Nat.pow_pos (by omega))
 rw[hz2]
 generalize Q%2^(31-t)=u at *
 have hp:2^t<2^(t+1):=by rw[Nat.pow_succ];have:0<2^t:=Nat.pow_pos (by omega);omega
 refine⟨ux u (2^t) (t+1) hp,?_⟩
 have h1:(u+1)*2^(t+1)<=2^(31-t)*2^(t+1):=Nat.mul_le_mul_right _ hu
 rw[<-e2,Nat.add_mul]at h1
 omega
theorem Ky{A D i:Nat}{rs qs rs':List Nat}(hD:0<D)(h:nU A D (i+1) rs qs)(dr':gZ rs')(hX:D<=2*val rs+A/2^i%2)(hr:val rs'=2*val rs+A/2^i%2-D)(hi:i/32<qs.length):
  nU A D i rs' (qs.set (i/32) (qs.getD (i/32) 0+2^(i%32))):=by
 have hh:=(wv (P:=A/2^(i+1)) (b:=A/2^i%2) (by omega) hD).1 (by rw[<-h.r];exact hX)
 rw[<-AG]at hh
 have hz:=rR h
 refine⟨dr',tO h.dq hi hz.2,by rw[hr,hh.2,h.r],?_⟩
 have hv:=o8 qs (i/32) (qs.getD (i/32) 0+2^(i%32)) hi
 have e:4294967296^(i/32)*2^(i%32)=2^i:=by rw[AZ, <-Nat.pow_add,Nat.div_add_mod]
 rw[Nat.mul_add,e]at hv
 have hq:=h.q
 rw[sS]at hq
 rw[hh.1,Nat.add_mul,Nat.one_mul]
 omega
theorem GM{P D R b m:Nat}(hr:R=P%D)(hD:0<D)(hm:D<4294967296^m)(hb:b<=1):2*R+b<4294967296^(m+1):=by
 have h:=Nat.mod_lt P hD
 rw[<-hr]at h
 rw[Nat.pow_succ]
 omega
theorem GI{A D:Nat}{rs qs:List Nat}(h:nU A D 0 rs qs):val rs=A%D/\val qs=A/D:=by
 have h1:=h.r
 have h2:=h.q
 simp at h1 h2
 exact⟨h1,h2⟩
end Go.Proofs.YtpdpnomocbehkaaGreatDoor
/- DivMod:quotient and remainder of two naturals. -/
namespace Go.Proofs.YtpdpnomocbehkaaGreatDoor
open Go.RowKit
def Ah(w:World)(a d:Nat)(e:Ending)(w':World):Prop:=∃ q r,e=.returned (.tuple #[q,r])/\bu w' q (a/d)/\bu w' r (a%d)/\Below w.heap.size w w'
theorem GK{w w':World}{a d:Nat}(q r:Value)(h1:bu w' q (a/d))(h2:bu w' r (a%d))(h3:Below w.heap.size w w'):Ah w a d (.returned (.tuple #[q,r])) w':=⟨q,r,rfl,h1,h2,h3⟩
theorem KX(w:World):bu w (.slice none 0 0) 0:=⟨none,0,0,0,[],rfl,Rep.nil _ _ _ _ _,Aw,rfl⟩
theorem PL(p:Nat)(h:p<18446744073709551616):IntKind.u64.wrap (p:Int)=(p:Int):=by rw[IntKind.wrap_u64];omega
theorem Ov{z p:Nat}(h1:z||| p=z+p)(h2:z+p<4294967296):bits .or .u64 (z:Int) (IntKind.u64.wrap (p:Int))=((z+p:Nat):Int):=by
 rw[PL p (by omega),bits_or_u64_nat z p (by omega) (by omega),h1]
theorem or_bit{z t:Nat}(h1:z||| 2^t=z+2^t)(h2:z+2^t<4294967296):bits .or .u64 (z:Int) (IntKind.u64.wrap (2^t))=((z+2^t:Nat):Int):=by
 rw[jU];exact Ov h1 h2
theorem Da{w:World}{base ty g n cap j t:Nat}{qs:List Nat}(h:w.ownsRow base ty 1 (.slice (some ⟨g,0,none⟩) n cap) n (cellsOf qs))(h1:qs.getD j 0||| 2^t=qs.getD j 0+2^t)(h2:qs.getD j 0+2^t<4294967296):
  (w.setCell ⟨g,j,none⟩ (.int .u64 (bits .or .u64 ((qs.getD j 0:Nat):Int) (IntKind.u64.wrap (2^t))))).ownsRow base ty 1 (.slice (some ⟨g,0,none⟩) n cap) n (cellsOf (qs.set j (qs.getD j 0+2^t)))/\
   w.grownBy (w.setCell ⟨g,j,none⟩ (.int .u64 (bits .or .u64 ((qs.getD j 0:Nat):Int) (IntKind.u64.wrap (2^t))))) (some g):=by
 rw[or_bit h1 h2, <-nf]
 exact h.stored _ _
set_option maxRecDepth 100000 in
set_option maxHeartbeats 3200000 in
theorem zf(w:World)(ga gd:Option Addr)(ba oa bd od ca cd n m:Nat)(xs ds:List Nat)(hx:xs.length=n)(hd:ds.length=m)(hn:n<=1073741824)(hm:m<=1073741824)
  (hA:Rep w ga ba oa ca xs) (hD:Rep w gd bd od cd ds) (cA:Can xs) (cD:Can ds) (hpos:0<val ds) (A D:Nat) (eA:A=val xs) (eD:D=val ds):
  Calls Tryz.prog 15 #[.slice ga n ca,.slice gd m cd] w fun e w'=>Ah w A D e w':=by
 obtain⟨i0,hi,hz0,hz1,hz2⟩:=info_parts Tryz.infoU
 have hca:bu w (.slice ga n ca) A:=by subst hx eA;exact⟨ga,ba,oa,ca,xs,rfl,hA,cA,rfl⟩
 have hcd:bu w (.slice gd m cd) D:=by subst hd eD;exact⟨gd,bd,od,cd,ds,rfl,hD,cD,rfl⟩
 obtain⟨L,hL,hnL,hmL⟩:∃ L,L<=1073741824/\n<=L/\m<=L:=⟨max n m,by omega,by omega,by omega⟩
 have hcmp:=J7 w _ _ A D L hL (by rw[eA];exact Nat.lt_of_lt_of_le (gW cA.1) (Nat.pow_le_pow_right (by omega) (by omega))) (by rw[eD];exact Nat.lt_of_lt_of_le (gW cD.1) (Nat.pow_le_pow_right (by omega) (by omega))) hca hcd
 have HC:=hide hcmp
 have EA:=hide eA
 have ED:=hide eD
 clear hcmp eA eD
 by_cases hlt:A<D
 ·go_enter Tryz.func15,Tryz.ntmps15
  go_wp2_with fail
  refine(ae HC).mono ?_
  rintro e w1 ⟨rfl,b1⟩
  rw[dF hlt]
  go_wp2
  go_ret2
  exact GK _ _ (by rw[Nat.div_eq_of_lt hlt];exact KX _) (by rw[Nat.mod_eq_of_lt hlt];exact hca.next b1) b1
 ·have hcv:¬cO A D<0:=by unfold cO;rw[if_neg hlt];split<;>omega
  go_enter Tryz.func15,Tryz.ntmps15
  go_wp2_with fail
  refine(ae HC).mono ?_
  rintro e w1 ⟨rfl,b1⟩
  generalize cO A D=cv at *
  go_wp2_with (at_make;refine wpList_make_full _ rfl _ _ 24 rfl w.heap.size 90 i0 (.int .u64 0) 1 Tryz.underlying24 hi hz0 hz1 _ _ _ _ (m+1) rfl rfl ?c0 ?c1 ?c2 ?c3 ?c4 ?_)
  case c0=>omega
  case c1=>omega
  case c2=>rw[hz2];omega
  case c3=>unfold maxLen;omega
  case c4=>exact b1.size
  intro w2 hr0 hg2
  rw[je]at hr0
  obtain⟨g1,hg1⟩:∃ g1,g1=w1.heap.size:=⟨_,rfl⟩
  rw[<-hg1]at hr0 ⊢
  clear hg1
  go_wp2_with (at_make;refine wpList_make_full _ rfl _ _ 35 rfl w.heap.size 90 i0 (.int .u64 0) 1 Tryz.underlying35 hi hz0 hz1 _ _ _ _ n rfl rfl ?d0 ?d1 ?d2 ?d3 ?d4 ?_)
  case d0=>omega
  case d1=>omega
  case d2=>rw[hz2];omega
  case d3=>unfold maxLen;omega
  case d4=>exact Nat.le_trans b1.size hg2.size
  intro w3 hq0 hg3
  rw[je]at hq0
  obtain⟨g2,hg2e⟩:∃ g2,g2=w2.heap.size:=⟨_,rfl⟩
  rw[<-hg2e]at hq0 ⊢
  have hlt1:=hr0.lt g1 rfl
  have hlt2:=hq0.lt g2 rfl
  have hne:g1≠g2:=by omega
  have hr1:=hr0.kept hg3 (Or.inr (by simp[Value.ownBlock]))
  have b2:Below w.heap.size w w2:=b1.grown hg2 b1.size (fun k h=>by cases h)
  have b3:Below w.heap.size w w3:=b2.grown hg3 b2.size (fun k h=>by cases h)
  have HG:=hide hne
  clear hr0 hg2 hg3 b1 b2 hg2e HC hne
  go_wp2_with fail
  refine(F9 _ ga ba oa ca n xs hx hn (hA.below b3 (Nat.le_refl _)) cA.1).mono ?_
  rintro e w4 ⟨K,rfl,hK1,hK2,rfl⟩
  have S0:=hide (Cm (A:=A) (D:=D) (k:=K) (n:=m+1) (m:=n) (by rw[ae EA];exact hK2))
  clear hK2
  go_wp2
  go_loopw [8] (fun i wr=>∃(k:Nat) (rs qs:List Nat),k<=K/\i=.int .i64 ((k:Int)-1)/\rs.length=m+1/\qs.length=n/\Hid (nU A D k rs qs)/\
    wr.ownsRow w.heap.size 90 1 (.slice (some ⟨g1,0,none⟩) (m+1) (m+1)) (m+1) (cellsOf rs)/\wr.ownsRow w.heap.size 90 1 (.slice (some ⟨g2,0,none⟩) n n) n (cellsOf qs)/\Below w.heap.size w wr) (fun i _=>(intOf i+1).toNat)
  case atStart=>exact⟨K,_,_,Nat.le_refl _,rfl,by simp,by simp,S0,hr1,hq0,b3⟩
  case round=>
   obtain⟨k,rs,qs,hk,rfl,hrl,hql,hAt,hor,hoq,hnx⟩:=hrel
   clear hr1 hq0 b3 S0
   by_cases h0:0<k
   ·obtain⟨i,rfl⟩:∃ i,k=i+1:=⟨k-1,by omega⟩
    have ej:((i+1:Nat):Int)-1=(i:Int):=by omega
    rw[ej]
    clear ej
    go_wp2_with fail
    refine(J1 _ ga ba oa ca n i xs hx hn (by omega) (hA.below hnx (Nat.le_refl _)) cA.1).mono ?_
    rintro e w5 ⟨rfl,rfl⟩
    rw[<-ae EA]
    obtain⟨b,hb⟩:∃ b,b=A/2^i%2:=⟨_,rfl⟩
    have hb1:b<=1:=by omega
    rw[<-hb]
    have HB:=hide hb
    clear hb
    go_wp2_with fail
    have hDk:=hD.below hnx (Nat.le_refl _)
    have hXl:2*val rs+b<4294967296^(m+1):=GM hAt.out.r (by rw[ae ED];exact hpos) (by rw[ae ED, <-hd];exact gW cD.1) hb1
    refine(Ft _ w.heap.size g1 (m+1) (m+1) rs ds gd bd od cd m b hor hrl hd (by omega) (by omega) hAt.out.dr cD.1 hDk (fun h=>by have:=hD.lt (by omega);omega) hb1 _ rfl hXl).mono ?_
    rintro e w6 ⟨more,rs',rfl,hl',dr',hor',hg6,hm'⟩
    have hoq':=hoq.kept hg6 (Or.inr (by simp[Value.ownBlock];exact(ae HG).symm))
    have hn6:Below w.heap.size w w6:=hnx.grown hg6 hnx.size (fun k h=>by cases h;omega)
    have D1:=hide hAt.out
    clear hXl hDk hor hoq hg6 hAt
    rcases hm' with⟨rfl,h1,h2⟩|⟨rfl,h1,h2⟩
    ·have H1:=hide h1
     have H2:=hide h2
     clear h1 h2
     obtain⟨j,hj⟩:∃ j,j=i/32:=⟨_,rfl⟩
     obtain⟨t,ht⟩:∃ t,t=i%32:=⟨_,rfl⟩
     have ej:(i:Int)/32=(j:Int):=by omega
     have et:(i:Int)%32=(t:Int):=by omega
     have hjn:j<n:=by omega
     have ht32:t<32:=by omega
     obtain⟨z,HZ⟩:∃ z:Nat,Hid (z=qs.getD j 0):=⟨_,rfl⟩
     have cz:w6.cell? ⟨g2,j,none⟩=some (.int .u64 (z:Int)):=by
      have:=(aG hoq').2.cell j (by omega)
      rw[Nat.zero_add, <-HZ.out]at this
      exact this
     have fz:=hoq'.frozenAt j
     have HJ:=hide hj
     have HT:=hide ht
     clear hj ht
     have hz:=rR (ae D1)
     have hyes:=Ky (by rw[ae ED];exact hpos) (ae D1) dr' (by rw[<-ae HB,ae ED];exact ae H1) (by rw[<-ae HB,ae ED];exact ae H2) (by rw[<-ae HJ];omega)
     rw[<-ae HJ, <-ae HT]at hz hyes
     have hst:=Da hoq' hz.1 hz.2
     rw[<-HZ.out]at hst hyes
     have hkeep:=hor'.kept hst.2 (Or.inr (by simp[Value.ownBlock];exact ae HG))
     have hb7:Below w.heap.size w _:=hn6.grown hst.2 hn6.size (fun k h=>by cases h;omega)
     have R1:=hide hst.1
     have R2:=hide hkeep
     have R3:=hide hb7
     have R4:=hide hyes
     clear hst hkeep hb7 hyes hz
     go_wp2
     exact⟨⟨i,rs',_,by omega,rfl,hl',by simpa using hql,R4,ae R2,ae R1,ae R3⟩,by simp[intOf]⟩
    ·have hno:=NY (by rw[ae ED];exact hpos) (ae D1) dr' (by rw[<-ae HB,ae ED];exact h1) (by rw[<-ae HB];exact h2)
     have R4:=hide hno
     clear h1 h2 hno
     go_wp2
     exact⟨⟨i,rs',qs,by omega,rfl,hl',hql,R4,hor',hoq',hn6⟩,by simp[intOf]⟩
   ·obtain rfl:k=0:=by omega
    obtain⟨hv1,hv2⟩:=GI hAt.out
    have hdr:=hAt.out.dr
    have hdq:=hAt.out.dq
    have V1:=hide hv1
    have V2:=hide hv2
    clear hv1 hv2
    go_wp2_with fail
    refine(jT _ _ g2 0 n n qs hql (by omega) (aG hoq).2 hdq).mono ?_
    rintro e w7 ⟨vq,rfl,nq,rfl⟩
    go_wp2_with fail
    refine(jT _ _ g1 0 (m+1) (m+1) rs hrl (by omega) (aG hor).2 hdr).mono ?_
    rintro e w8 ⟨vr,rfl,nr,rfl⟩
    go_wp2
    go_ret2
    exact GK vq vr (by rw[<-ae V2];exact nq) (by rw[<-ae V1];exact nr) hnx
theorem ji(w:World)(u v:Value)(a d L:Nat)(hL:L<=1073741824)(ha:a<4294967296^L)(hd:d<4294967296^L)(hpos:0<d)(hu:bu w u a)(hv:bu w v d):
  Calls Tryz.prog 15 #[u,v] w fun e w'=>∃ q r,e=.returned (.tuple #[q,r])/\bu w' q (a/d)/\bu w' r (a%d)/\Below w.heap.size w w':=by
 obtain⟨ga,ba,oa,ca,xs,rfl,hA,cA,rfl⟩:=hu
 obtain⟨gb,bb,ob,cb,ys,rfl,hB,cB,rfl⟩:=hv
 have la:=gC cA ha
 have lb:=gC cB hd
 exact zf w ga gb ba oa bb ob ca cb _ _ xs ys rfl rfl (by omega) (by omega) hA hB cA cB hpos _ _ rfl rfl
end Go.Proofs.YtpdpnomocbehkaaGreatDoor
