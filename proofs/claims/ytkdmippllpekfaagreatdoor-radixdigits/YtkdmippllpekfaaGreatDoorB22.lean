import Derived.Test.YtkdmippllpekfaaGreatDoorB14
import Derived.Test.YtkdmippllpekfaaGreatDoorB20
namespace Go.Proofs.YtkdmippllpekfaaGreatDoor
set_option maxRecDepth 100000
set_option maxHeartbeats 3200000
open Go.RowKit
theorem Tryz.WJ:(Tryz.prog.info? 5).map (fun i=>(i.zero,i.size,i.bytes))=some (some (.int .u8 0),1,1):=by kernel_rfl
def Mw(l:List Nat):List Value:=l.map (fun d=>.int .u8 ((vk d).toNat:Int))
theorem Ge(zs:List Nat)(j:Nat)(h:j<zs.length):(Mw zs)[j]?=some (.int .u8 ((vk (zs.getD j 0)).toNat:Int)):=by simp[Mw,h,List.getD_eq_getElem?_getD]
theorem OT(zs:List Nat)(k d:Nat):(Mw zs).set k (.int .u8 ((vk d).toNat:Int))=Mw (zs.set k d):=by simp[Mw,List.map_set]
theorem S4{ds zs:List Nat}(h:nM ds zs 0 ds.length ds.length):zs=ds.reverse:=by refine xG (by rw[h.1,jG]) (fun k hk=>?_);rw[jG]at hk;rw[h.2 k hk,aW (by omega),aq,aq,adq hk];congr 2;omega
theorem KD{w:World}{base t n:Nat}{v:Value}{us:List Value}(h:w.ownsRow base t 1 v n us):∃ga cap,v=.slice ga n cap:=by
 rcases h.2 with⟨rfl,rfl⟩|⟨g,cap,cur,rfl,_⟩
 ·exact⟨none,0,rfl⟩
 ·exact⟨_,cap,rfl⟩
theorem SR(w:World)(v:Value)(A b L:Nat)(hA:A<4294967296^L)(hL:L<=1000)(hb:2<=b)(jA:b<=36)(hv:jO w v A):Calls Tryz.prog 14 #[v,.int .i64 (b:Int)] w fun e w'=>e=.returned (.string ⟨⟨txt b A⟩⟩)/\Below w.heap.size w w':=by
 obtain⟨i0,hi,jx,gY,fX⟩:=rG Tryz.WJ;by_cases h0:A=0
 ·have ht:txt b A=[48]:=by unfold txt;rw[aW h0]
  have CZ:=ag (oC w v A true (by simp[h0]) hv);rw[ht];clear hA hv h0 ht;go_enter Tryz.func14,Tryz.ntmps14
  go_wp2_with fail
  refine(ae CZ).mono ?_;rintro e wz ⟨rfl,hw⟩;obtain rfl:=hw.symm;clear hw CZ;go_wp2;go_ret;exact⟨rfl,aj _ _⟩
 ·have ht:Hid (txt b A=((dg b A).map vk).reverse):=by show _=_;unfold txt;rw[aV h0]
  have CZ:=ag (oC w v A false (by simp[h0]) hv);obtain⟨N,hN⟩:∃N,N=(dg b A).length:=⟨_,rfl⟩;have wE:=Bm hb L A hA;have xw:N<=32000:=by omega
  have HA:Hid (∀x,x<=A->x<4294967296^L):=fun x hx=>aN hx hA;have HN:=ag hN;have bz:Below w.heap.size w w:=aj _ _;have Bu:¬0=A:=fun e=>h0 e.symm;clear hN wE hA h0;go_enter Tryz.func14,Tryz.ntmps14
  go_wp2_with fail
  refine(ae CZ).mono ?_;rintro e wz ⟨rfl,hw⟩;obtain rfl:=hw.symm;clear hw CZ;go_wp2
  go_loopw [0,5] (fun av out wr=>∃(x:Nat) (gw:Option Addr) (cw k:Nat) (pre:List Nat),x<=A/\k<=N/\Hid (dg b A=pre++dg b x)/\Hid (pre.length=k)/\jO wr av x/\out=.slice gw k cw/\
    wr.ownsRow w.heap.size 5 1 (.slice gw k cw) k (Mw pre)/\Below w.heap.size w wr)
   (fun _ out _=>N-Le out)
  case atStart=>exact⟨A,none,0,0,[],af _,aO _,by show _=_;simp,by show _=_;rfl,hv,rfl,il _ _ _ _,bz⟩
  case round=>
   clear hv bz;obtain⟨x,gw,cw,k,pre,hxA,hkN,hD,hK,hx,rfl,cV,en⟩:=hrel;have kF:=en.size;by_cases h0:x=0
   ·subst h0;have CZ:=ag (oC _ _ _ true (by simp) hx);have hD2:Hid (dg b A=pre):=by have:=ae hD;rw[py,dU]at this;exact this
    obtain rfl:N=k:=by rw[ae HN,ae hD2];exact ae hK
    have vo:0<N:=by
     rcases fh N with h|h
     ·have e:dg b A=[]:=dQ.1 (by rw[<-ae HN];exact h);have:=YK hb A;rw[e]at this;exact absurd this Bu
     ·exact h
    obtain⟨g,rfl⟩:∃g,gw=some ⟨g,0,none⟩:=by
     rcases cV.2 with h|⟨g',bM,cur,hv,_⟩
     ·cases h.1;omega
     ·cases hv;exact⟨g',rfl⟩
    have yQ:=(cV.lt g rfl).1;obtain⟨H,hH⟩:∃H,H=N/2:=⟨_,rfl⟩;have e1:(N:Int).tdiv 2=(H:Int):=by rw[hH];rfl
    have e2:(N:Int)/2=(H:Int):=by rw[hH];rfl
    have e3:IntKind.i64.wrap (H:Int)=(H:Int):=by rw[ao];omega
    have hH2:2*H<=N:=(by omega);have hH3:N<=2*H+1:=(by omega);have RS:=ag (xP pre 0 N);clear hD hx hH hkN hxA
    go_wp2_with fail
    refine(ae CZ).mono ?_;rintro e wz ⟨rfl,hw⟩;obtain rfl:=hw.symm;clear hw CZ;go_wp2
    go_loopw [9] (fun iv wz=>∃(i:Nat) (zs:List Nat),i<=H/\iv=.int .i64 (i:Int)/\Hid (nM pre zs 0 N i)/\wz.ownsRow w.heap.size 5 1 (.slice (some ⟨g,0,none⟩) N cw) N (Mw zs)/\Below w.heap.size w wz) (fun iv _=>H-(intOf iv).toNat)
    case atStart=>exact⟨0,pre,aO _,rfl,RS,cV,en⟩
    case round=>
     clear cV en kF RS;obtain⟨i,zs,hi,rfl,hV,cV,en⟩:=hrel;have kG:zs.length=N:=(ae hV).1.trans (ae hK);by_cases h1:i<H
     ·obtain⟨J,hJ⟩:∃J,J=N-1-i:=⟨_,rfl⟩;have eJ:(N:Int)-1-(i:Int)=(J:Int):=(by omega);have iJ:0<=(J:Int)/\(J:Int)<(N:Int):=(by omega);have ii:0<=(i:Int)/\(i:Int)<(N:Int):=(by omega);have GK:=Cr (ae hV) (by omega) (by have:=ae hK;omega);have Kb:=zP (ae hV) (by omega) (by have:=ae hK;omega);have fR:=zQ (ae hV) (by omega) (by have:=ae hK;omega);rw[<-hJ]at Kb fR;simp only[Nat.zero_add]at GK Kb fR;obtain⟨x,hx⟩:∃x,x=pre.getD i 0:=⟨_,rfl⟩;obtain⟨y,hy⟩:∃y,y=pre.getD J 0:=⟨_,rfl⟩;rw[<-hx]at GK fR;rw[<-hy]at Kb fR;have cx:=(cV.cellAt i (by omega)).trans (Ge zs i (by omega));have cy:=(cV.cellAt J (by omega)).trans (Ge zs J (by omega));rw[GK]at cx;rw[Kb]at cy;have fx:=cV.frozenAt i;have fy:=cV.frozenAt J;have o1:=cV.stored i (.int .u8 ((vk y).toNat:Int));have o2:=o1.1.stored J (.int .u8 ((vk x).toNat:Int));rw[OT,OT]at o2;have HO:=ag o2.1.drew;have HB:Hid (Below w.heap.size w (((wr.setCell ⟨g,i,none⟩ (.int .u8 ((vk y).toNat:Int))).setCell ⟨g,J,none⟩ (.int .u8 ((vk x).toNat:Int))).drew)):=((en.setCell (p:=⟨g,i,none⟩) yQ _).setCell (p:=⟨g,J,none⟩) yQ _).drew;have HS:=ag fR;have n1:¬i=J:=(by omega);have n2:¬J=i:=(by omega);have hm:Hid (H-(i+1)<H-i):=by show _<_;omega
      generalize ((vk x).toNat:Int)=X at *;generalize ((vk y).toNat:Int)=Y at *;clear o1 o2 fR GK Kb hx hy hV hJ cV en;go_wp2
      go_big_region
      all_goals
       focus
        go_wp2
        go_roundw
        case rel=>exact⟨i+1,_,by omega,by go_num,HS,ae HO,ae HB⟩
        case measure=>simp[intOf];have:=ae hm;omega
     ·obtain rfl:i=H:=(by omega);have ad5:=Cq (ae hV) (by omega) (by omega);have hz:zs=pre.reverse:=S4 (by rw[ae hK];exact ad5);have Nc:=aeI (P:=Tryz.prog) wr 61 9 5 ⟨g,0,none⟩ cw (zs.map vk) jZ rfl rfl (fun j hj=>by rw[nF]at hj;have:=(cV.cellAt j (by omega)).trans (Ge zs j hj);rw[Ao,bh,this];simp[List.getD_eq_getElem?_getD,List.getElem?_eq_getElem hj]);rw[nF,kG]at Nc;have Wg:Hid ((⟨(zs.map vk).toArray⟩:ByteArray)=⟨⟨txt b A⟩⟩):=by show _=_;rw[ae ht,ae hD2,hz,List.map_reverse]
      generalize (⟨(zs.map vk).toArray⟩:ByteArray)=Z at *;clear hV ad5 hz;go_wp2;go_ret;rw[ae Wg];exact⟨rfl,en⟩
   ·have CZ:=ag (oC _ _ _ false (by simp[h0]) hx);have fR:Hid (dg b A=(pre++[x%b])++dg b (x/b)):=by show _=_;rw[ae hD,oY hb h0];simp
    have DF:k+1<=N:=by rw[ae HN,ae hD,oY hb h0,bU,ae hK];simp
    have hq:x/b<=A:=ak (bT _ _) hxA;have hm:x%b<b:=aD _ (by omega);have CM:=ag (fun W u (h:jO W u x)=>N9 W u x b L (ae HA x hxA) hL (by omega) (by omega) h);obtain⟨Q,hQ⟩:∃Q,Q=x/b:=⟨_,rfl⟩;obtain⟨R,hR⟩:∃R,R=x%b:=⟨_,rfl⟩;rw[<-hQ, <-hR]at CM fR;rw[<-hQ]at hq;rw[<-hR]at hm;have bw:IntKind.u64.wrap (b:Int)=(b:Int):=LU b (by omega);clear hQ hR hD
    go_wp2_with fail
    refine(ae CZ).mono ?_;rintro e wz ⟨rfl,hw⟩;obtain rfl:=hw.symm;clear hw CZ;have nV:Hid (∀g,gw=some ⟨g,0,none⟩->g<wr.heap.size):=fun g hg=>by subst hg;exact(cV.lt g rfl).2
    go_wp2_with fail
    refine(ae CM _ _ hx).mono ?_;rintro e w2 ⟨q,rfl,nq,b2,nw⟩;have cV:=qM b2 cV;have en:=en.trans (b2.mono en.size);have kF:=en.size;have NW:=ag nw;clear CM hx b2 nw;obtain⟨c,hc⟩:∃c,c=(vk R).toNat:=⟨_,rfl⟩;by_cases h9:9<R
    ·have rC:c=87+R:=(by rw[hc,Av (by omega),aW h9]);have ec:97+(R:Int)-10=(c:Int):=(by omega);have r9:decide ((9:Int)<(R:Int))=true:=bg (by omega);have HC:=ag hc;clear hc rC
     go_wp2_with (at_builtin;refine jE _ rfl (.tmp 32) (.tmp 34) 61 rfl w.heap.size 5 i0 (.int .u8 0) 1 1 jZ hi jx gY fX rfl (by omega) (.slice gw k cw) k _ rfl (cV.alloc _) ⟨w2.heap.size,0,none⟩ 1 1 [.int .u8 (c:Int)] rfl rfl (by exact fU w2 [.int .u8 (c:Int)] 5) (by intro u hu;simp at hu;subst hu;rfl) (by unfold maxLen;omega) (by omega) (by simp;omega) ?_;intro v1 w4 iq fe sk)
     have qX:w4.ownsRow w.heap.size 5 1 v1 (k+1) (Mw (pre++[R])):=by have h:=iq;rw[ae HC]at h;unfold Mw at h ⊢;rw[rh];exact h
     have jA:=im (en.alloc kF _) (cV.alloc _) fe (by simp;omega);have nq:=(nq.next ((aj _ _).alloc (af _) (Obj.cells #[.int .u8 (c:Int)] 5))).aan fe (fun g hg a m c e hm=>by
      have h1:=ae NW a m c e hm;have h2:∃a,gw=some a/\a.block=g:=by cases gw with|none=>cases hg|some a=>exact⟨a,rfl,by cases hg;rfl⟩
      obtain⟨a2,h3,h4⟩:=h2;have h5:gw=some ⟨g,0,none⟩:=by
       rcases cV.2 with h|⟨g',bM,cur,hv,_⟩
       ·cases h.1;cases h3
       ·cases hv;cases h3;cases h4;rfl
      have h6:=ae nV g h5;omega)
     obtain⟨g1,c1,rfl⟩:=KD qX;have HO:=ag qX;have HQ:=ag nq;clear iq fe sk cV nq qX;go_wp2
     go_roundw
     case rel=>exact⟨Q,g1,c1,k+1,pre++[R],hq,DF,fR,by show _=_;rw[bU,ae hK];rfl,ae HQ,rfl,ae HO,jA⟩
     case measure=>simp[Le];omega
    ·have rC:c=48+R:=(by rw[hc,Av (by omega),aV h9]);have ec:48+(R:Int)=(c:Int):=(by omega);have r9:decide ((9:Int)<(R:Int))=false:=aM (by omega);have HC:=ag hc;clear hc rC
     go_wp2_with (at_builtin;refine jE _ rfl (.tmp 32) (.tmp 34) 61 rfl w.heap.size 5 i0 (.int .u8 0) 1 1 jZ hi jx gY fX rfl (by omega) (.slice gw k cw) k _ rfl (cV.alloc _) ⟨w2.heap.size,0,none⟩ 1 1 [.int .u8 (c:Int)] rfl rfl (by exact fU w2 [.int .u8 (c:Int)] 5) (by intro u hu;simp at hu;subst hu;rfl) (by unfold maxLen;omega) (by omega) (by simp;omega) ?_;intro v1 w4 iq fe sk)
     have qX:w4.ownsRow w.heap.size 5 1 v1 (k+1) (Mw (pre++[R])):=by have h:=iq;rw[ae HC]at h;unfold Mw at h ⊢;rw[rh];exact h
     have jA:=im (en.alloc kF _) (cV.alloc _) fe (by simp;omega);have nq:=(nq.next ((aj _ _).alloc (af _) (Obj.cells #[.int .u8 (c:Int)] 5))).aan fe (fun g hg a m c e hm=>by
      have h1:=ae NW a m c e hm;have h2:∃a,gw=some a/\a.block=g:=by cases gw with|none=>cases hg|some a=>exact⟨a,rfl,by cases hg;rfl⟩
      obtain⟨a2,h3,h4⟩:=h2;have h5:gw=some ⟨g,0,none⟩:=by
       rcases cV.2 with h|⟨g',bM,cur,hv,_⟩
       ·cases h.1;cases h3
       ·cases hv;cases h3;cases h4;rfl
      have h6:=ae nV g h5;omega)
     obtain⟨g1,c1,rfl⟩:=KD qX;have HO:=ag qX;have HQ:=ag nq;clear iq fe sk cV nq qX;go_wp2
     go_roundw
     case rel=>exact⟨Q,g1,c1,k+1,pre++[R],hq,DF,fR,by show _=_;rw[bU,ae hK];rfl,ae HQ,rfl,ae HO,jA⟩
     case measure=>simp[Le];omega
end Go.Proofs.YtkdmippllpekfaaGreatDoor
