import Derived.Test.YtkdmippllpekfaaGreatDoorB28
import Derived.Test.YtkdmippllpekfaaGreatDoorB14
namespace Go.Proofs.YtkdmippllpekfaaGreatDoor
set_option maxRecDepth 100000
set_option maxHeartbeats 12800000
open Go.RowKit
variable{xs zs:List Nat}{y:Nat}
def I7(y:Nat)(xs zs:List Nat)(q:Nat):Prop:=zs.length=xs.length/\∀j,zs.getD j 0=if j<q then xs.getD j 0%y else xs.getD j 0
theorem NF{q:Nat}(h:I7 y xs zs q)(hq:q<xs.length):I7 y xs (zs.set q (xs.getD q 0%y)) (q+1):=by
 obtain⟨h1,h2⟩:=h;refine⟨by rw[Qy,h1],fun j=>?_⟩;by_cases hj:j=q
 ·subst hj;rw[aq,abG (by omega),df,aW (by omega)]
 ·rw[aq,adz (Ne.symm hj), <-aq,h2 j];by_cases h3:j<q
  ·rw[aW h3,aW (by omega)]
  ·rw[aV h3,aV (by omega)]
theorem xI{d:Nat}(h:d ∈ xs):∃j,j<xs.length/\xs.getD j 0=d:=by obtain⟨j,hj,e⟩:=mh h;exact⟨j,hj,by rw[aq,bj hj,df,e]⟩
theorem Sf(h:I7 y xs zs xs.length)(hy:0<y):∀d,d ∈ zs->d<y:=fun d hd=>by obtain⟨j,hj,rfl⟩:=xI hd;rw[h.2 j,aW (by rw[<-h.1];exact hj)];exact aD _ hy
theorem Al(SN:mX)(ST:mW)(SP:kJ)(SV:yG)(SX:zv)(T:bJ)(y:Nat)(hy:y<18446744073709551616)(ga:Option Addr)(ba oa ca la:Nat)(xs:List Nat)(w:World)(Pu:xs.length=la)(F4:cH w ga ba oa ca xs)(Pz:∀j,xs.getD j 0<18446744073709551616)(fit:Bool)(hT:TB w):Calls Tryz.prog 7 #[T.val,.int .u64 (y:Int),.slice ga la ca,.bool fit] w fun e w'=>e=.returned (.bool true)/\Below w.heap.size w w':=by
 obtain⟨n,Ac⟩:∃k,k=min la 40:=⟨_,rfl⟩;have Ca:Hid (∀w,Calls Tryz.prog 9 #[.slice ga la ca,.int .i64 40] w fun e w'=>e=.returned (.slice ga n ca)/\w'=w):=fun w=>uy w ga la ca 40 n (by have:=F4.room;omega) (by omega) Ac;obtain⟨fA,rA⟩:=uz F4 40 n (by rw[Pu];exact Ac);have dx:bG (xs.take n):=mI Pz n;have hma:n<=40:=by omega
 clear Ac F4 Pz Pu;generalize xs.take n=us at *;have bl:=aj w.heap.size w;have b0:Below w.heap.size w (w.alloc (.cells #[.int .i64 T.b,.int .i64 T.t,.int .i64 T.n,.int .i64 T.d,.int .i64 T.r,.int .i64 T.l,.int .i64 T.x,.int .i64 T.p,.int .i64 T.k,.int .i64 T.s,.int .i64 T.e] 23)):=(aj _ _).alloc (af _) _;have tA:=jy w T 23;obtain⟨W1,mP⟩:∃W,w.alloc (.cells #[.int .i64 T.b,.int .i64 T.t,.int .i64 T.n,.int .i64 T.d,.int .i64 T.r,.int .i64 T.l,.int .i64 T.x,.int .i64 T.p,.int .i64 T.k,.int .i64 T.s,.int .i64 T.e] 23)=W:=⟨_,rfl⟩;rw[mP]at b0 tA;obtain⟨P0,ke⟩:∃P,w.heap.size=P:=⟨_,rfl⟩;rw[ke]at tA;have lP:P0<W1.heap.size:=tA.lt;have HT:=ag hT;clear hT;have rA:=rA.next b0;have bl:=aJ bl b0;clear b0;have CN:=ag (fun W=>SN T W);have CK:=ag (fun W h=>gA SN ST SP W h);have HV:=ag SV;have HX:=ag SX;clear SN ST SP SV SX;unfold bJ.val at CN ⊢;have HL:=ag fA;have HDx:=ag dx;have CC:=ag (fun W (r:cH W ga ba oa ca us)=>Hb W ga ba oa ca n us fA (by omega) r);clear fA dx;go_enter Tryz.func7,Tryz.ntmps7
 go_wp2_with fail
 refine(ae Ca _).mono ?_;rintro e IU ⟨rfl,rfl⟩;clear Ca
 go_wp2_with fail
 refine(ae CC _ rA).mono ?_;rintro e w1 ⟨v,rfl,cV,b⟩;obtain⟨gl,bb,cl,rfl,GJ,rL,BC⟩:=fS cV;have wc:Hid (∀j,gl=some ⟨j,0,none⟩->IU.heap.size<=j/\j<w1.heap.size):=fun j h=>by subst h;exact cV.lt j rfl
 have bl:=aJ bl b;have tA:=tA.next b;clear b CC rA GJ rL BC;have Ip:=tA;obtain⟨p0,p1,p2,p3,p4,p5,p6,p7,p8,p9,wF⟩:=Ip
 go_wp2_with fail
 refine(ae CN _).mono ?_;rintro e w2 ⟨gz,gw,gv,gr,gd,gm,gt,gk,ge,g,rfl,E,hn,b⟩;clear p0 p1 p2 p3 p4 p5 p6 p7 p8 p9 wF;have hg:w.heap.size<=g:=by have:=bl.size;omega
 have hS:=bl.size;have cV:=qM b cV;have bl:=aJ bl b;obtain⟨S1,hS1⟩:∃S1,S1=w1.heap.size:=⟨_,rfl⟩;obtain⟨S0,hS0⟩:∃S0,S0=IU.heap.size:=⟨_,rfl⟩;rw[<-hS1]at hn wc;rw[<-hS0]at cV wc;have DV:w.heap.size<=S0:=by omega
 clear b hS1 hS0 tA lP CN;have HN:=ag hn;clear hn;have HE:Hid (∀W,Out (fun j=>gl=some ⟨j,0,none⟩) w2 W->fc W gz gw gv gr gd gm gt gk ge g 0 0 0 T):=fun W o=>by have hn:=ae HN;exact E.out o (fun e=>by have:=ae wc _ e;omega) (fun e=>by have:=ae wc _ e;omega) (fun e=>by have:=ae wc _ e;omega) (fun e=>by have:=ae wc _ e;omega) (fun e=>by have:=ae wc _ e;omega) (fun e=>by have:=ae wc _ e;omega) (fun e=>by have:=ae wc _ e;omega) (fun e=>by have:=ae wc _ e;omega) (fun e=>by have:=ae wc _ e;omega) (fun e=>by have:=ae wc _ e;omega)
 have HB:Hid (∀W,Out (fun j=>gl=some ⟨j,0,none⟩) w2 W->Below w.heap.size w W):=fun W o=>bl.trans (o.below (B:=w.heap.size) bl.size (fun k e=>by have:=ae wc _ e;omega));clear E bl HN wc;have o0:Out (fun j=>gl=some ⟨j,0,none⟩) w2 w2:=Out.refl _ _;have hnI:(n:Int)<=40:=by omega
 by_cases hy2:y<2
 ·have b3:decide ((2:Int)<=(y:Int))=false:=aM (by omega);go_wp2
  go_loopw [10,11] (fun rv iv wr=>iv=.int .i64 0/\rv=.bool false/\wr=w2) (fun _ _ _=>0)
  case atStart=>exact⟨rfl,rfl,rfl⟩
  case round=>
   obtain⟨rfl,rfl,hw⟩:=hrel;obtain rfl:=hw.symm;clear hw;rcases fl 0 n with h0|h0
   case' inl=>have b4:decide ((0:Int)<(n:Int))=true:=bg (by omega)
   case' inr=>
    have b4:¬0<n:=(by omega);clear h0
   all_goals
    focus
     have E:=ae HE _ o0;have bl:=ae HB _ o0;obtain⟨_,bb,_,he,GJ,rL,_⟩:=fS cV;cases he;have CR:=ag (ae HX _ gz gw gv gr gd gm gt gk ge g 0 0 0 T gl bb 0 cl n y us E ((ae HT).next bl) (by decide) (by decide) (by decide) (by decide) GJ (by omega) rL hy (fun d hd=>by obtain⟨j,_,rfl⟩:=xI hd;exact ae HDx j) (Or.inl hy2));clear rL GJ cV HE HB o0
     go_wp2_with fail
     with_reducible refine(ae CR).mono ?_
     rintro e wx ⟨qa,qc,s1,m1,rfl,_,_,o⟩;have bl:=bl.trans (o.below (B:=w.heap.size) bl.size (fun k hk=>by rw[hk];exact hg));clear o CR E
     go_wp2_with fail
     refine(ae CK _ ((ae HT).next bl)).mono ?_;rintro e w1 ⟨rfl,b⟩;have bl:=aJ bl b;clear b;go_wp2;go_ret;exact⟨rfl,bl⟩
 ·have b3:decide ((2:Int)<=(y:Int))=true:=bg (by omega);have yz:((y:Int)==0)=false:=by simp only[beq_eq_false_iff_ne];omega
  cases fit
  ·go_wp2
   go_loopw [10,11] (fun rv iv wr=>∃(q:Nat) (p:Bool),q<=n/\iv=.int .i64 (q:Int)/\rv=.bool p/\Hid (p=true↔∀j,j<q->us.getD j 0<y)/\wr=w2) (fun _ iv _=>n-(intOf iv).toNat)
   case atStart=>exact⟨0,true,aO _,rfl,rfl,⟨fun _ j h=>absurd h (by omega),fun _=>rfl⟩,rfl⟩
   case round=>
    obtain⟨q,p,hq,rfl,rfl,hP,hw⟩:=hrel;obtain rfl:=hw.symm;clear hw;by_cases h1:q<n
    ·have b4:decide ((q:Int)<(n:Int))=true:=bg (by omega);obtain⟨_,bb,_,he,GJ,rL,_⟩:=fS cV;cases he;obtain rfl:=rL.head (by omega);have hc:=rL.cell q (by omega);rw[bh]at hc;obtain⟨X,hX⟩:∃X,X=us.getD q 0:=⟨_,rfl⟩;rw[<-hX]at hc;have i0:(0:Int)<=(q:Int):=(by omega);have i1:(q:Int)<(n:Int):=(by omega);have b5:decide ((X:Int)<(y:Int))=decide (X<y):=lT.2 (by omega);obtain⟨p2,Un⟩:∃p2,p2=(p&&decide (X<y)):=⟨_,rfl⟩;have Aa:Hid (p2=true↔∀j,j<q+1->us.getD j 0<y):=by show _↔_;rw[Un,Bool.and_eq_true,Gk,ae hP,hX];exact⟨fun h j hj=>(fl j q).elim (fun h2=>h.1 j h2) (fun h2=>by obtain rfl:j=q:=(by omega);exact h.2),fun h=>⟨fun j hj=>h j (by omega),h q (by omega)⟩⟩
     have b6:∀z:Bool,z=decide (X<y)->p=true->p2=z:=fun z hz hp=>by rw[Un,hp,hz,Bool.true_and]
     have b7:p=false->p2=false:=fun hp=>by rw[Un,hp,AO]
     obtain⟨z,hz⟩:∃z,z=decide (X<y):=⟨_,rfl⟩;rw[<-hz]at b5;have HZ:=ag hz;have H6:=ag b6;have H7:=ag b7;clear hX hP rL GJ b6 b7 hz Un;cases p
     ·have e:p2=false:=ae H7 rfl;clear H6 H7;go_wp2
      go_roundw
      case rel=>exact⟨q+1,false,by omega,by go_num,rfl,by rw[e]at Aa;exact Aa,by first|rfl|trivial⟩
      case measure=>simp[intOf];omega
     ·have e:p2=z:=ae H6 z (ae HZ) rfl;clear H6 H7;go_wp2
      go_roundw
      case rel=>exact⟨q+1,z,by omega,by go_num,by first|rfl|exact gi Value.bool (ae HZ).symm,by rw[e]at Aa;exact Aa,by first|rfl|trivial⟩
      case measure=>simp[intOf];omega
    ·have b4:decide ((q:Int)<(n:Int))=false:=aM (by omega);obtain rfl:n=q:=(by omega);cases p
     ·have ae3:∃d,d ∈ us/\y<=d:=by
       have h:¬∀j,j<n->us.getD j 0<y:=fun h=>by have:=(ae hP).2 h;cases this
       have hl:=ae HL;obtain⟨j,hj⟩:=adu.1 h;obtain⟨hj1,xz⟩:=Classical.not_imp.1 hj;exact⟨us.getD j 0,by rw[aq,bj (by omega),df];exact gO _,by omega⟩
      clear hP;have E:=ae HE _ o0;have bl:=ae HB _ o0;obtain⟨_,bb,_,he,GJ,rL,_⟩:=fS cV;cases he;have CR:=ag (ae HX _ gz gw gv gr gd gm gt gk ge g 0 0 0 T gl bb 0 cl n y us E ((ae HT).next bl) (by decide) (by decide) (by decide) (by decide) GJ (by omega) rL hy (fun d hd=>by obtain⟨j,_,rfl⟩:=xI hd;exact ae HDx j) (Or.inr ae3));clear rL GJ cV HE HB o0
      go_wp2_with fail
      with_reducible refine(ae CR).mono ?_
      rintro e wx ⟨qa,qc,s1,m1,rfl,_,_,o⟩;have bl:=bl.trans (o.below (B:=w.heap.size) bl.size (fun k hk=>by rw[hk];exact hg));clear o CR E
      go_wp2_with fail
      refine(ae CK _ ((ae HT).next bl)).mono ?_;rintro e w2 ⟨rfl,b⟩;have bl:=aJ bl b;clear b;go_wp2;go_ret;exact⟨rfl,bl⟩
     ·have lJ:∀d,d ∈ us->d<y:=fun d hd=>by
       obtain⟨j,hj,rfl⟩:=xI hd;exact(ae hP).1 rfl j (by have:=ae HL;omega)
      clear hP;have E:=ae HE _ o0;have bl:=ae HB _ o0;obtain⟨_,bb,_,he,GJ,rL,_⟩:=fS cV;cases he;have dh:∀d,d ∈ us->d<y:=lJ;have lg:=E.met.lt;have CR:=ag (ae HV _ gz gw gv gr gd gm gt gk ge g 0 0 0 T gl bb 0 cl n y us E ((ae HT).next bl) (by decide) (by decide) (by decide) (by decide) GJ (by omega) rL (by omega) hy dh);have CVr:=ag (fun W (r:cH W gl bb 0 cl us)=>Cn W gl bb 0 cl n y us GJ (by omega) r hy (fun j=>by
       rcases fl j (us).length with h|h
       ·have h2:=dh ((us).getD j 0) (by rw[aq,bj h,df];exact gO h);omega
       ·rw[aq,jc h];simp) dh)
      have HVb:Hid (vl y (us)<18446744073709551616^40):=by have h1:=zV (b:=y) us dh;show _<_;exact az h1 (ak (di (fk hy) _) (aA (by omega) (by omega)))
      clear dh GJ cV HE HB o0;generalize vl y (us)=V at *
      go_wp2_with fail
      with_reducible refine(ae CR).mono ?_
      rintro e wx ⟨q,s1,m1,rfl,nq,_,_,o⟩;have rL:=E.rep o rL;have bl:=bl.trans (o.below (B:=w.heap.size) bl.size (fun k hk=>by rw[hk];exact hg));clear o CR E;obtain⟨qa,ql,qc,rfl⟩:=nq.shape
      go_wp2_with fail
      with_reducible refine(ae CVr _ rL).mono ?_
      rintro e wy ⟨v1,rfl,n1,b⟩;have nq:=nq.next b;have bl:=aJ bl b;clear b CVr rL
      go_wp2_with fail
      refine(pe _ _ _ _ _ 40 (by omega) (ae HVb) n1 nq).mono ?_;rintro e wv ⟨rfl,b⟩;have bl:=aJ bl b;clear b n1 nq
      go_wp2_with fail
      refine(ae CK _ ((ae HT).next bl)).mono ?_;rintro e w3 ⟨rfl,b⟩;have bl:=aJ bl b;clear b;go_wp2;go_ret;exact⟨rfl,bl⟩
  ·go_wp2
   go_loopw [10,11] (fun rv iv wr=>∃(q:Nat) (zs:List Nat),q<=n/\iv=.int .i64 (q:Int)/\rv=.bool true/\Hid (I7 y us zs q)/\wr.ownsRow S0 47 1 (.slice gl n cl) n (cellsOf zs)/\Out (fun j=>gl=some ⟨j,0,none⟩) w2 wr) (fun _ iv _=>n-(intOf iv).toNat)
   case atStart=>exact⟨0,us,aO _,rfl,rfl,⟨rfl,fun j=>by rw[aV (by omega)]⟩,cV,o0⟩
   case round=>
    clear cV o0;obtain⟨q,zs,hq,rfl,rfl,hM,cV,o0⟩:=hrel;by_cases h1:q<n
    ·have b4:decide ((q:Int)<(n:Int))=true:=bg (by omega);obtain⟨_,bb,_,he,GJ,rL,_⟩:=fS cV;cases he;obtain rfl:=rL.head (by omega);have hc:=rL.cell q (by omega);rw[bh]at hc;have hX0:zs.getD q 0=us.getD q 0:=(by rw[(ae hM).2 q,aV (by omega)]);obtain⟨X,hX⟩:∃X,X=us.getD q 0:=⟨_,rfl⟩;rw[hX0, <-hX]at hc;have i0:(0:Int)<=(q:Int):=(by omega);have i1:(q:Int)<(n:Int):=(by omega);obtain⟨Z,hZ⟩:∃Z,Z=X%y:=⟨_,rfl⟩;have e1:(X:Int)%(y:Int)=(Z:Int):=by rw[hZ];rfl
     have e2:(X:Int).tmod (y:Int)=(Z:Int):=by rw[UE (by omega)];exact e1
     have hZy:Z<y:=by rw[hZ];exact aD _ (by omega)
     have b5:decide ((Z:Int)<(y:Int))=true:=bg (by omega);have fz:=cV.frozenAt q;have vp:=cV.stored q (.int .u64 (Z:Int));rw[qA]at vp;have hM2:Hid (I7 y us (zs.set q Z) (q+1)):=by have h:=NF (ae hM) (q:=q) (by rw[ae HL];exact h1);rw[<-hX, <-hZ]at h;exact h
     have H1:=ag vp.1;have hO:Hid (Out (fun j=>(some ⟨bb,0,none⟩:Option Addr)=some ⟨j,0,none⟩) w2 (wr.setCell ⟨bb,q,none⟩ (.int .u64 (Z:Int)))):=o0.set rfl _;clear vp hM hX0 hX hZ rL GJ cV o0;go_wp2
     go_roundw
     case rel=>exact⟨q+1,_,by omega,by go_num,rfl,hM2,ae H1,ae hO⟩
     case measure=>simp[intOf];omega
    ·have b4:decide ((q:Int)<(n:Int))=false:=aM (by omega);obtain rfl:n=q:=(by omega);have lJ:∀d,d ∈ zs->d<y:=Sf (by have:=ae hM;rw[<-ae HL]at this;exact this) (by omega);clear hM;have E:=ae HE _ o0;have bl:=ae HB _ o0;obtain⟨_,bb,_,he,GJ,rL,_⟩:=fS cV;cases he;have dh:∀d,d ∈ zs->d<y:=lJ;have lg:=E.met.lt;have CR:=ag (ae HV _ gz gw gv gr gd gm gt gk ge g 0 0 0 T gl bb 0 cl n y zs E ((ae HT).next bl) (by decide) (by decide) (by decide) (by decide) GJ (by omega) rL (by omega) hy dh);have CVr:=ag (fun W (r:cH W gl bb 0 cl zs)=>Cn W gl bb 0 cl n y zs GJ (by omega) r hy (fun j=>by
      rcases fl j (zs).length with h|h
      ·have h2:=dh ((zs).getD j 0) (by rw[aq,bj h,df];exact gO h);omega
      ·rw[aq,jc h];simp) dh)
     have HVb:Hid (vl y (zs)<18446744073709551616^40):=by have h1:=zV (b:=y) zs dh;show _<_;exact az h1 (ak (di (fk hy) _) (aA (by omega) (by omega)))
     clear dh GJ cV HE HB o0;generalize vl y (zs)=V at *
     go_wp2_with fail
     with_reducible refine(ae CR).mono ?_
     rintro e wx ⟨q,s1,m1,rfl,nq,_,_,o⟩;have rL:=E.rep o rL;have bl:=bl.trans (o.below (B:=w.heap.size) bl.size (fun k hk=>by rw[hk];exact hg));clear o CR E;obtain⟨qa,ql,qc,rfl⟩:=nq.shape
     go_wp2_with fail
     with_reducible refine(ae CVr _ rL).mono ?_
     rintro e wy ⟨v1,rfl,n1,b⟩;have nq:=nq.next b;have bl:=aJ bl b;clear b CVr rL
     go_wp2_with fail
     refine(pe _ _ _ _ _ 40 (by omega) (ae HVb) n1 nq).mono ?_;rintro e wv ⟨rfl,b⟩;have bl:=aJ bl b;clear b n1 nq
     go_wp2_with fail
     refine(ae CK _ ((ae HT).next bl)).mono ?_;rintro e w4 ⟨rfl,b⟩;have bl:=aJ bl b;clear b;go_wp2;go_ret;exact⟨rfl,bl⟩
end Go.Proofs.YtkdmippllpekfaaGreatDoor
