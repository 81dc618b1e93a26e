import Derived.Test.YtkdmippllpekfaaGreatDoorB34
import Derived.Test.YtkdmippllpekfaaGreatDoorB22
import Derived.Test.YtkdmippllpekfaaGreatDoorB27
namespace Go.Proofs.YtkdmippllpekfaaGreatDoor
set_option maxRecDepth 100000
set_option maxHeartbeats 12800000
variable{ds xs ys:List Nat}{Ju b base n:Nat}{ga:Option Addr}{v:Value}{W W' w:World}
section
open Go.RowKit
def abR(K:ZK)(f:Nat):Prop:=∀(ga:Option Addr) (n o cap c:Nat) (pre ys post zs:List Nat) (L:List (Value×Nat)) (W:World),n<f->ZB K zs c L W->zs=pre++ys++post->pre.length=o->ys.length=n->(∀d,d ∈ ys->d<K.p)->n<=8000->n<=cap->cap<=9223372036854775807->(0<n->ga=some ⟨K.gb,o,none⟩)->c+zc n<=270000000000000000->
 Calls Tryz.prog 65 #[.pointer (some ⟨K.gp,0,none⟩),.slice ga n cap] W fun e w'=>∃xa la ca,e=.returned (.slice xa la ca)/\ZB K zs (c+zc n) ((.slice xa la ca,vl K.p ys) :: L) w'
theorem YM{p:Nat}(hp:p<18446744073709551616)(hd:∀d,d ∈ ys->d<p)(h:ys.length<=n):wl (vl p ys)<=n:=by refine iY _ _ ?_;exact az (zV ys hd) (ak (di (fk hp) _) (aA (by decide) h))
theorem YL(p P:Nat)(ys:List Nat)(h:P<=ys.length):vl p (ys.drop P)*p^P+vl p (ys.take P)=vl p ys:=by have:=qT p (ys.take P) (ys.drop P);rw[eW,cF,bu h]at this;rw[this,aC,fj]
theorem PX(pre ys post:List Nat)(P:Nat):pre++ys++post=pre++ys.take P++(ys.drop P++post):=by have:=eW P ys;generalize ys.take P=a at *;generalize ys.drop P=b at *;subst this;simp
theorem aa4{K:ZK}(S:ZS K)(hX:K.X=[])(f:Nat)(IH:abR K f):abR K (f+1):=by
 intro ga n o cap c pre ys post zs L W hf h Np ho hn hd DS A_ ks GG h1;obtain⟨R,hR⟩:∃R,R=K.T.bD.row.getD 6 0:=⟨_,rfl⟩;have Gy:=FD K.T;rw[<-hR]at Gy;obtain⟨c0,c1,c2,c3,c4,c5⟩:=h.way;obtain⟨c6,c7,c8,c9,Vh⟩:=h.aeE;have c11:=h.bits;rw[<-hR]at Vh;have q0:=Old.cell c0;have q1:=Old.cell c1;have q2:=Old.cell c2;have q3:=Old.cell c3;have q4:=Old.cell c4;have q5:=Old.cell c5;have q6:=Old.cell c6;have q7:=Old.cell c7;have q8:=Old.cell c8;have q9:=Old.cell c9;have q10:=Old.cell (p:=⟨K.g,9,none⟩) Vh;have q11:=Old.cell (p:=⟨K.gp,1,none⟩) c11;have inst:=gM W;have Zv:Hid (∀W',Below W.heap.size W W'->ZB K zs c L W'):=fun W' b=>h.next S.b2 b;clear c0 c1 c2 c3 c4 c5 c6 c7 c8 c9 Vh c11;have db9:=S.d9;obtain⟨nd,Ni⟩:∃nd,nd=n*K.db:=⟨_,rfl⟩;have ndl:nd<=n*64:=by rw[Ni];exact au _ db9
 have m1:(n:Int)*(K.db:Int)=(nd:Int):=by rw[Ni];push_cast;rfl
 have m2:IntKind.i64.wrap (nd:Int)=(nd:Int):=by rw[ao];omega
 have m3:IntKind.i64.wrap (R-1)=R-1:=by rw[ao];omega
 obtain⟨R6,hR6⟩:∃R6,R6=64*(R-1):=⟨_,rfl⟩;have m4:IntKind.i64.wrap R6=R6:=by rw[ao];omega
 rw[hR6]at m4;clear Ni;by_cases hs:(nd:Int)<=R6
 ·have CH:Hid (∀W',Below W.heap.size W W'->Calls Tryz.prog 72 #[.pointer (some ⟨K.gp,0,none⟩),.slice ga n cap] W' fun e w'=>∃xa la ca,e=.returned (.slice xa la ca)/\ZB K zs (c+zc n) ((.slice xa la ca,vl K.p ys) :: L) w'):=fun W' b=>(Ox S hX (ae Zv W' b) Np ho hn hd DS ga GG (ak (gB (AM n) c) h1)).mono fun e w' ⟨ga,la,ca,k1,k2⟩=>⟨ga,la,ca,k1,k2.up (gB (AM n) c)⟩;rw[hR6]at hs;clear h ho IH Zv hR h1 DS hn hd Np hR6 GG;go_enter Tryz.func65,Tryz.ntmps65
  go_wp2_with fail
  refine fo (by kernel_rfl) (by kernel_rfl) ?_
  repeat (go_big_quiet_step (fail))
  refine wpQuiet_nil ?_;intro w5 tH;obtain⟨u5,rfl⟩:=tH
  go_wp2_with fail
  with_reducible refine(ae CH _ u5.jD).mono ?_
  rintro e w2 ⟨ga,la,ca,rfl,hz⟩;have HX:=ag hz;clear hz CH;go_wp2;go_ret;exact⟨_,_,_,rfl,ae HX⟩
 ·have xA:2<=n:=by omega
  obtain rfl:=GG (by omega);rw[hR6]at hs;have Uy:=ag (fun W=>LX W n xA (by omega));have RN:=S.p9;have Zk:∀P Q,1<=P->P+Q=n->1<=Q->c+zc P+zc Q+zu=c+zc n:=fun P Q h1 h2 h3=>by have:=Qt h2 h1 h3;omega
  have UA:Hid (∀W P Q,ZB K zs c L W->1<=P->P+Q=n->1<=Q->Calls Tryz.prog 65 #[.pointer (some ⟨K.gp,0,none⟩),.slice (some ⟨K.gb,o,none⟩) P cap] W fun e w'=>∃ga la ca,e=.returned (.slice ga la ca)/\ZB K zs (c+zc P) ((.slice ga la ca,vl K.p (ys.take P)) :: L) w'):=fun W P Q hz hP MU hQ=>
   IH _ P o cap c pre (ys.take P) (ys.drop P++post) zs L W (by omega) hz (by rw[Np];exact PX pre ys post P) ho (by rw[cF];omega) (fun d h=>hd d (lF h)) (by omega) (by omega) ks (fun _=>rfl) (by have:=Zk P Q hP MU hQ;omega)
  have TY:Hid (∀W P Q oP cP lv,ZB K zs (c+zc P) ((lv,vl K.p (ys.take P)) :: L) W->1<=P->P+Q=n->1<=Q->o+P=oP->cap-P=cP->Calls Tryz.prog 65 #[.pointer (some ⟨K.gp,0,none⟩),.slice (some ⟨K.gb,oP,none⟩) Q cP] W fun e w'=>∃ga la ca,e=.returned (.slice ga la ca)/\ZB K zs (c+zc P+zc Q) ((.slice ga la ca,vl K.p (ys.drop P)) :: (lv,vl K.p (ys.take P)) :: L) w'):=fun W P Q oP cP lv hz hP MU hQ hoP z_=>
   IH _ Q oP cP (c+zc P) (pre++ys.take P) (ys.drop P) post zs _ W (by omega) hz (by rw[Np,PX pre ys post P,fB (pre++ys.take P)]) (by rw[bU,cF,ho];omega) (by rw[gP];omega) (fun d h=>hd d (fQ h)) (by omega) (by omega) (by omega) (fun _=>rfl) (by have:=Zk P Q hP MU hQ;omega)
  have CP:Hid (∀(W:World) (i d:Nat) (Lq:List (Value×Nat)),ZB K zs d Lq W->2^i<=n-1->d<=270000000000000000->Calls Tryz.prog 71 #[.pointer (some ⟨K.gp,0,none⟩),.int .i64 (i:Int)] W fun e w'=>∃ga la ca,e=.returned (.slice ga la ca)/\ZB K zs (d+60129542144) ((.slice ga la ca,K.p^2^i) :: Lq) w'):=fun W i d Lq hz hi hd=>se S hz i (by refine cG fun dh=>?_;have:=aA (n:=2) (by omega) dh;omega) (by omega);have CM:Hid (∀(W:World) (i d:Nat) (pv hv lv:Value) (P:Nat),ZB K zs d ((pv,K.p^2^i) :: (hv,vl K.p (ys.drop P)) :: (lv,vl K.p (ys.take P)) :: L) W->2^i<=n-1->d<=280000000000000000->Calls Tryz.prog 74 #[.pointer (some ⟨K.gm,0,none⟩),hv,pv] W fun e w'=>∃ga la ca,e=.returned (.slice ga la ca)/\ZB K zs (d+4294967296) ((.slice ga la ca,vl K.p (ys.drop P)*K.p^2^i) :: (pv,K.p^2^i) :: (hv,vl K.p (ys.drop P)) :: (lv,vl K.p (ys.take P)) :: L) w'):=fun W i d pv hv lv P hz hi hd2=>
   hz.mul S (by omega) ((hz.live _ (.tail _ (.head _))).toM (jM (YM RN (fun d h=>hd d (fQ h)) (by rw[gP];omega))) (af _)) ((hz.live _ (.head _)).toM (jM (ak (AF RN (by refine cG fun dh=>?_;have:=aA (n:=2) (by omega) dh;omega)) (show 8192<=16384 by omega))) (af _))
  have CA:Hid (∀(W:World) (i d:Nat) (mv pv hv lv:Value),ZB K zs d ((mv,vl K.p (ys.drop (2^i))*K.p^2^i) :: (pv,K.p^2^i) :: (hv,vl K.p (ys.drop (2^i))) :: (lv,vl K.p (ys.take (2^i))) :: L) W->2^i<=n-1->Calls Tryz.prog 73 #[mv,lv] W fun e w'=>∃ga la ca,e=.returned (.slice ga la ca)/\ZB K zs d ((.slice ga la ca,vl K.p ys) :: L) w'):=fun W i d mv pv hv lv hz hi=>by
   have w1:wl (vl K.p (ys.drop (2^i))*K.p^2^i)<=100000:=by have h2:=qi (vl K.p (ys.drop (2^i))) (K.p^2^i);have h3:wl (vl K.p (ys.drop (2^i)))<=n:=YM RN (fun d h=>hd d (fQ h)) (by rw[gP];exact ak (yD _ _) (gV hn));have h4:=XE RN (bC i);omega
   have w2:wl (vl K.p (ys.take (2^i)))<=n:=YM RN (fun d h=>hd d (lF h)) (by rw[cF];omega);refine(hz.call S.b2 (th W mv lv _ _ ((hz.live _ (.head _)).sR (ak w1 (by omega))) ((hz.live _ (.tail _ (.tail _ (.tail _ (.head _))))).sR (ak w2 (by omega))))).mono ?_;rintro e w' ⟨ga,la,ca,k1,k2⟩;rw[YL K.p (2^i) ys (by omega)]at k2;exact⟨ga,la,ca,k1,k2.sub (fun x hx=>by
    rcases ei.1 hx with rfl|hx
    ·exact .head _
    ·exact .tail _ (.tail _ (.tail _ (.tail _ (.tail _ hx)))))⟩
  have HB:Hid (∀d Lq W W',ZB K zs d Lq W->Below W.heap.size W W'->ZB K zs d Lq W'):=fun d Lq W W' hz hb=>hz.next S.b2 hb;have HW:Hid (∀d Lq W,ZB K zs d Lq W->zp K W):=fun d Lq W hz=>hz.way;have HU:Hid (∀P Q r v W,ZB K zs (c+zc P+zc Q+60129542144+4294967296) ((r,v) :: L) W->1<=P->P+Q=n->1<=Q->ZB K zs (c+zc n) ((r,v) :: L) W):=fun P Q r v W hz hP MU hQ=>hz.up (by have:=Zk P Q hP MU hQ;have:=Y4;omega);have HC:Hid (∀P Q,1<=P->P+Q=n->1<=Q->c+zc P+zc Q<=270000000000000000):=fun P Q hP MU hQ=>by have:=Zk P Q hP MU hQ;omega
  clear h ho hR h1 IH Gy Zk hd Np hR6 hn;go_enter Tryz.func65,Tryz.ntmps65
  go_wp2_with fail
  refine fo (by kernel_rfl) (by kernel_rfl) ?_
  repeat (go_big_quiet_step (fail))
  refine wpQuiet_nil ?_;intro w5 tH;obtain⟨u5,rfl⟩:=tH;have hG:=ae Zv _ u5.jD;generalize u5.val=w5 at *;clear Zv u5 q0 q1 q2 q3 q4 q5 q6 q7 q8 q9 q10 q11 inst
  go_wp2_with fail
  with_reducible refine(ae Uy _).mono ?_
  rintro e w2 ⟨i,rfl,Wl,zI,hw⟩;obtain rfl:=hw.symm;clear hw Uy zI;have hG:=ae HB _ _ _ w5.drew hG (aj _ _).drew;have i64:i<=13:=by refine cG fun dh=>?_;have:=aA (n:=2) (by omega) dh;omega
  have i0:IntKind.i64.wrap (((2:Int)^i))=((2^i:Nat):Int):=by rw[lK,ao];generalize 2^i=p at *;omega
  have hi0:(0:Int)<=(i:Int):=by omega
  have i1:min i 64=i:=by omega
  have i2:=lK i;have hPp:=bC i;obtain⟨P,hP⟩:∃P,P=2^i:=⟨_,rfl⟩;obtain⟨Q,hQ⟩:∃Q,n-P=Q:=⟨_,rfl⟩;obtain⟨oP,hoP⟩:∃oP,o+P=oP:=⟨_,rfl⟩;obtain⟨cP,z_⟩:∃cP,cap-P=cP:=⟨_,rfl⟩;have HI1:=ag Wl;rw[<-hP]at i0 i2 Wl hPp;have j1:P<=n/\P<=cap/\¬cap=P/\¬n=P:=by omega
  obtain⟨j1,j2,j3,j4⟩:=j1;have HPP:=ag hP;have iP:IntKind.i64.wrap (P:Int)=(P:Int):=by rw[ao];omega
  clear hP;have UA:=ag (fun W hz=>ae UA W P Q hz (by omega) (by omega) (by omega));have TY:=ag (fun W lv hz=>ae TY W P Q oP cP lv hz (by omega) (by omega) (by omega) hoP z_);have HU:=ag (fun r v W hz=>ae HU P Q r v W hz (by omega) (by omega) (by omega));have qW:=ae HC P Q (by omega) (by omega) (by omega);obtain⟨e2,Wf⟩:∃e2,e2=c+zc P+zc Q:=⟨_,rfl⟩;rw[<-Wf]at TY HU qW;have TZ:=ag (fun W Lq hz=>ae CP W i e2 Lq hz (ae HI1) qW);have CM1:=ag (fun W pv hv lv hz=>ae CM W i (e2+60129542144) pv hv lv P hz (ae HI1) (by omega));have Qu:=ag (fun W mv pv hv lv hz=>ae CA W i (e2+60129542144+4294967296) mv pv hv lv hz (ae HI1));rw[<-ae HPP]at TZ CM1 Qu;clear Wf qW CP CM CA HC;go_wp2
  go_region_held3 (fun _=>True) (trivial) (first
    |(with_reducible refine(ae UA _ hG).mono ?_;rintro e w3 ⟨pa,pl,pc,rfl,hG⟩)
    |(with_reducible refine(ae TY _ _ hG).mono ?_;rintro e w4 ⟨qa,ql,qc,rfl,hG⟩)
    |fail)
  clear UA TY;have hG:=ae HB _ _ _ w4.drew hG (aj _ _).drew;obtain⟨e0,e1,e3,e4,e5,e6⟩:=ae HW _ _ _ hG;go_wp2
  go_region_held3 (fun w'=>w'.cell? ⟨K.gp,0,none⟩=some (.pointer (some ⟨K.gz,0,none⟩))/\w'.cell? ⟨K.gz,0,none⟩=some (.pointer (some ⟨K.gw,0,none⟩))/\w'.cell? ⟨K.gw,0,none⟩=some (.pointer (some ⟨K.gv,0,none⟩))/\w'.cell? ⟨K.gv,0,none⟩=some (.pointer (some ⟨K.gr,0,none⟩))/\w'.cell? ⟨K.gr,0,none⟩=some (.pointer (some ⟨K.gd,0,none⟩))/\w'.cell? ⟨K.gd,0,none⟩=some (.pointer (some ⟨K.gm,0,none⟩))) (first|(exact ae HW _ _ _ hG)|go_keep) (first
    |(with_reducible refine(ae TZ _ _ hG).mono ?_;rintro e w6 ⟨ra,rl,rc,rfl,hG⟩)
    |(with_reducible refine(ae CM1 _ _ _ _ hG).mono ?_;rintro e w7 ⟨sa,sl,sc,rfl,hG⟩)
    |(with_reducible refine(ae Qu _ _ _ _ _ hG).mono ?_;rintro e w8 ⟨ta,tl,tc,rfl,hG⟩)
    |fail)
  have HX:=ag (ae HU _ _ _ hG);clear hG TZ CM1 Qu HU HW HB;go_wp2;go_ret;exact⟨_,_,_,rfl,ae HX⟩
theorem YF{K:ZK}(S:ZS K)(hX:K.X=[]):∀f,abR K f
 |0=>fun _ n _ _ _ _ _ _ _ _ _ h=>absurd h (by omega)
 |f+1=>aa4 S hX f (YF S hX f)
end
section
open Go.RowKit
def noW(w:World):World:={ w with heap:=#[] }
section
variable {w W : World} {gz gw gv gr gd gm gt gk ge g gb p c : Nat} {s l m s' m' : Int} {T : bJ} {zs : List Nat}
theorem Dk{N:World}(hN:Es N W)(hE:fc w gz gw gv gr gd gm gt gk ge g s l m T)(hT:TB w)(h1:s<=288230376151711744)(h2:0<=l)(h3:l<=900)(E:fc W gz gw gv gr gd gm gt gk ge g s' l m' T)(k0:0<=s')(k1:s'<=s+(c:Int))(o:Out (·=g) w W)(hb:w.heap.size<=gb)(hZ:cW W gb zs)(p2:2<=p)(p9:p<18446744073709551616):Calls Tryz.prog 55 #[.pointer (some ⟨gz,0,none⟩),.int .u64 (p:Int)] W fun e w'=>∃gp db,e=.returned (.pointer (some ⟨gp,0,none⟩))/\ZS ⟨w,gz,gw,gv,gr,gd,gm,gt,gk,ge,g,s,l,m,T,W.heap.size,gb,gp,db,p,[],N⟩/\ZB ⟨w,gz,gw,gv,gr,gd,gm,gt,gk,ge,g,s,l,m,T,W.heap.size,gb,gp,db,p,[],N⟩ zs c [] w':=by
 obtain⟨p1,DU⟩:∃p1,p1=p-1:=⟨_,rfl⟩;have e1:(p:Int)-1=(p1:Int):=by omega
 have e2:IntKind.u64.wrap (p1:Int)=(p1:Int):=by rw[aK];omega
 have CL:=ag (fun w=>qJ (p1:Int) w (by omega) (by omega));rw[dV]at CL;obtain⟨a1,a2,a3,a4⟩:=jQ 64 p1 (by omega) (by omega) (by omega);obtain⟨db,BD⟩:∃db,db=Lib.bitLen p1:=⟨_,rfl⟩;rw[<-BD]at CL a1 a2;have CO:=ag (Fo W p p9);have HE:=ag E;have HF:Hid (∀w1 r,aU W.heap.size w1 r p->Below W.heap.size W w1->ZS ⟨w,gz,gw,gv,gr,gd,gm,gt,gk,ge,g,s,l,m,T,W.heap.size,gb,w1.heap.size+1,db,p,[],N⟩/\ZB ⟨w,gz,gw,gv,gr,gd,gm,gt,gk,ge,g,s,l,m,T,W.heap.size,gb,w1.heap.size+1,db,p,[],N⟩ zs c [] ((w1.alloc (.cells #[r] 38)).alloc (.cells #[.pointer (some ⟨gz,0,none⟩),.int .i64 (db:Int),.slice (some ⟨w1.heap.size,0,none⟩) 1 1] 117))):=fun w1 r nr b1=>by have sz:=b1.size;refine⟨⟨hE,hT,h1,h2,h3,hb,hZ.lt,ak sz (Nat.le_succ _),p2,p9,by show 0<db;omega,by show db<=64;omega,fun x hx=>by cases hx⟩,?_⟩;exact YY (K:=⟨w,gz,gw,gv,gr,gd,gm,gt,gk,ge,g,s,l,m,T,W.heap.size,gb,w1.heap.size+1,db,p,[],N⟩) (hN.next b1) rfl rfl (E.next b1) k0 k1 (o.next b1) b1.size (hZ.next b1) nr
 clear hN hE hT h1 h2 h3 E k0 k1 o hb hZ a1 a2 a3 a4 BD DU;go_enter Tryz.func55,Tryz.ntmps55
 go_wp2_with fail
 with_reducible refine(ae CL _).mono ?_
 rintro e w1 ⟨rfl,hw⟩;obtain rfl:=hw.symm;clear hw
 go_wp2_with fail
 refine(ae CO).mono ?_;rintro e w1 ⟨r,rfl,nr,b1⟩;have HF1:=ag (ae HF w1 r nr b1);obtain⟨ra,rl,rc,rfl⟩:=nr.shape;clear nr b1 CO CL HF;go_wp2;go_ret;exact⟨_,db,rfl,ae HF1⟩
end
theorem Qs(h:n<=8000):zc n<=1100000000000000:=by unfold zc zu;exact ak (au 64424509440 (show 2*n-1<=16000 by omega)) (by decide)
theorem Yo(L d:Nat)(h:2<=d):((L:Int)-1).tdiv (d:Int)=(((L-1)/d:Nat):Int):=by
 rcases fh L with rfl|h0
 ·rw[show((0:Nat):Int)-1= -1 from rfl,Int.neg_tdiv,show(1:Int)=((1:Nat):Int) from rfl, <-Int.ofNat_tdiv];rw[bq (by omega),bq (by omega)];rfl
 ·rw[show(L:Int)-1=((L-1:Nat):Int) by omega, <-Int.ofNat_tdiv]
theorem TW(w:World)(gz gw gv gr gd gm gt gk ge g:Nat)(s l m:Int)(T:bJ)(u:Value)(A p:Nat)(hE:fc w gz gw gv gr gd gm gt gk ge g s l m T)(hT:TB w)(h0:0<=s)(h1:s<=288230376151711744)(h2:0<=l)(h3:l<=900)(hu:jg w u A)(wA:wl A<=100)(hp:4294967296<=p)(p9:p<18446744073709551616):Calls Tryz.prog 41 #[.pointer (some ⟨gz,0,none⟩),u,.int .u64 (p:Int)] w fun e w'=>∃n gb,e=.returned (.slice (some ⟨gb,0,none⟩) n n)/\A<p^n/\n<=8000/\w.heap.size<=gb/\cW w' gb (pd p n A)/\∃s' m',fc w' gz gw gv gr gd gm gt gk ge g s' l m' T/\(0<=s'/\s'<=s+1100000000000000)/\Out (·=g) w w':=by
 obtain⟨L,hL9,Wc,OG⟩:=BU hu.gE;obtain⟨a1,a2,a3,a4⟩:=jQ 64 p p9 p9 (by omega);obtain⟨Lp,hLp⟩:∃Lp,Lp=Lib.bitLen p:=⟨_,rfl⟩;have CL:=ag (fun w=>qJ (p:Int) w (by omega) (by omega));rw[dV]at CL;rw[<-hLp]at CL a1 a2 a3 a4;have afD:33<=Lp:=by refine cG fun h=>?_;have:=aA (n:=2) (by omega) (show Lp<=32 by omega);omega
 obtain⟨d,hd⟩:∃d,d=Lp-1:=⟨_,rfl⟩;obtain⟨t,ht⟩:∃t,t=(L-1)/d:=⟨_,rfl⟩;obtain⟨n,hn⟩:∃n,n=t+1:=⟨_,rfl⟩;have hA:A<p^n:=by
  rw[hn,ht,hd];refine Z_ ?_ (by omega) a3;rcases Wc with⟨b1,b2⟩|⟨b1,b2,b3,b4⟩
  ·rw[b1];exact bC _
  ·exact b4
 have hL:L<=6400:=by
  refine cG fun h=>?_;rcases Wc with⟨b1,b2⟩|⟨b1,b2,b3,b4⟩
  ·omega
  ·obtain⟨N,hN⟩:∃N,N=100:=⟨_,rfl⟩;rw[<-hN]at wA;have h4:=jM wA;have h5:(18446744073709551616:Nat)^N=2^(64*N):=(by rw[dH]);rw[h5]at h4;have h6:=aA (n:=2) (by omega) (show 64*N<=L-1 by omega);exact Nat.lt_irrefl _ (aN (ak h6 b3) h4)
 have DS:n<=8000:=by have:=bT (L-1) d;omega
 have e0:(Lp:Int)-1=(d:Int):=by omega
 have e1:IntKind.i64.wrap (d:Int)=(d:Int):=by rw[ao];omega
 have e2:IntKind.i64.wrap ((L:Int)-1)=(L:Int)-1:=by rw[ao];omega
 have e3:=Yo L d (by omega);rw[<-ht]at e3;have e4:IntKind.i64.wrap (t:Int)=(t:Int):=by rw[ao];omega
 have e5:(t:Int)+1=(n:Int):=by omega
 have e6:IntKind.i64.wrap (n:Int)=(n:Int):=by rw[ao];omega
 have e7:¬(d:Int)=0:=by omega
 have qG:=uK n n (n:Int) rfl rfl (by omega);have jx:=qx w n;have b0:Below w.heap.size w (w.alloc (.cells (dS n).toArray 47)):=(aj _ _).alloc (af _) _;have OG:=ag OG;have CT:=ag (Dk (N:=noW w) ⟨by simp[noW],fun j o hj _=>by simp[noW]at hj⟩ (c:=0) (gb:=w.heap.size) (zs:=List.replicate n 0) (p:=p) hE hT h1 h2 h3 (hE.next b0) h0 (by omega) (Out.bQ b0) (af _) jx (by omega) p9);obtain⟨W1,mP⟩:∃W1,w.alloc (.cells (dS n).toArray 47)=W1:=⟨_,rfl⟩;rw[mP]at CT;obtain⟨gb,yQ⟩:∃gb,w.heap.size=gb:=⟨_,rfl⟩;rw[yQ]at CT;have CD:Hid (∀W gp db,ZS ⟨w,gz,gw,gv,gr,gd,gm,gt,gk,ge,g,s,l,m,T,W1.heap.size,gb,gp,db,p,[],noW w⟩->ZB ⟨w,gz,gw,gv,gr,gd,gm,gt,gk,ge,g,s,l,m,T,W1.heap.size,gb,gp,db,p,[],noW w⟩ (List.replicate n 0) 0 [] W->Calls Tryz.prog 56 #[.pointer (some ⟨gp,0,none⟩),.slice (some ⟨gb,0,none⟩) n n,u] W fun e w'=>∃v,e=.returned v/\cW w' gb (pd p n A)/\∃s' m',fc w' gz gw gv gr gd gm gt gk ge g s' l m' T/\(0<=s'/\s'<=s+1100000000000000)/\Out (·=g) w w'):=fun W gp db hS hZ=>by
  have hz:ZB ⟨w,gz,gw,gv,gr,gd,gm,gt,gk,ge,g,s,l,m,T,W1.heap.size,gb,gp,db,p,[],noW w⟩ ([]++List.replicate n 0++[]) 0 [] W:=by rw[nG,dU];exact hZ
  have:=JU hS (n+1) n 0 n A 0 [] [] u [] W (by omega) hz rfl (fun c zs W hz=>hE.uG hz.out hu) hA (by omega) DS (af _) (by omega) (by have:=Qs DS;omega);refine this.mono ?_;rintro e w' ⟨v,rfl,k⟩;rw[nG,dU]at k;obtain⟨s',m',q1,q2,q3⟩:=k.at';refine⟨v,rfl,k.row,s',m',q1,⟨q2.1,?_⟩,q3⟩;have h5:s'<=s+((0+zc n:Nat):Int):=q2.2;have:=Qs DS;omega
 clear hE hT h0 h1 h2 h3 Wc a1 a2 a3 a4 hLp hd ht hn b0 jx;obtain⟨ua,ub,uo,uc,xs,GV,_⟩:=hu;subst GV;go_enter Tryz.func41,Tryz.ntmps41
 go_wp2_with fail
 refine(ae OG).mono ?_;rintro e w1 ⟨rfl,hw⟩;obtain rfl:=hw.symm;clear hw OG
 go_wp2_with fail
 with_reducible refine(ae CL _).mono ?_
 rintro e w1 ⟨rfl,hw⟩;obtain rfl:=hw.symm;clear hw CL
 go_wp2_with fail
 refine(ae CT).mono ?_;rintro e w2 ⟨gp,db,rfl,hS,hZ⟩;have CD:=ag (ae CD _ _ _ hS hZ);clear hS hZ CT
 go_wp2_with fail
 refine(ae CD).mono ?_;rintro e w3 ⟨v,rfl,k1,k2⟩;have HX:=ag (And.intro k1 k2);clear k1 k2 CD;go_wp2;go_ret;exact⟨n,gb,rfl,hA,DS,by omega,ae HX⟩
theorem TV(w W:World)(gz gw gv gr gd gm gt gk ge g gb n cap c:Nat)(s l m s' m':Int)(T:bJ)(ys post:List Nat)(p:Nat)(hE:fc w gz gw gv gr gd gm gt gk ge g s l m T)(hT:TB w)(h1:s<=288230376151711744)(h2:0<=l)(h3:l<=900)(E:fc W gz gw gv gr gd gm gt gk ge g s' l m' T)(k0:0<=s')(k1:s'<=s+(c:Int))(hc:c<=1000000000)(o:Out (·=g) w W)(hb:w.heap.size<=gb)(hZ:cW W gb (ys++post))(hn:ys.length=n)(hd:∀d,d ∈ ys->d<p)(DS:n<=8000)(A_:n<=cap)(ks:cap<=9223372036854775807)(ga:Option Addr)(GG:0<n->ga=some ⟨gb,0,none⟩)(p2:2<=p)(p9:p<18446744073709551616):Calls Tryz.prog 48 #[.pointer (some ⟨gz,0,none⟩),.slice ga n cap,.int .u64 (p:Int)] W fun e w'=>∃xa la ca,e=.returned (.slice xa la ca)/\aU W.heap.size w' (.slice xa la ca) (vl p ys)/\∃s2 m2,fc w' gz gw gv gr gd gm gt gk ge g s2 l m2 T/\(0<=s2/\s2<=s+1200000000000000)/\Out (·=g) w w'/\Es W w':=by
 have CT:=ag (Dk (N:=W) ⟨af _,fun _ _ hj _=>hj⟩ (c:=c) (gb:=gb) (zs:=ys++post) (p:=p) hE hT h1 h2 h3 E k0 k1 o hb hZ p2 p9);have CD:Hid (∀W2 gp db,ZS ⟨w,gz,gw,gv,gr,gd,gm,gt,gk,ge,g,s,l,m,T,W.heap.size,gb,gp,db,p,[],W⟩->ZB ⟨w,gz,gw,gv,gr,gd,gm,gt,gk,ge,g,s,l,m,T,W.heap.size,gb,gp,db,p,[],W⟩ (ys++post) c [] W2->Calls Tryz.prog 65 #[.pointer (some ⟨gp,0,none⟩),.slice ga n cap] W2 fun e w'=>∃xa la ca,e=.returned (.slice xa la ca)/\aU W.heap.size w' (.slice xa la ca) (vl p ys)/\∃s2 m2,fc w' gz gw gv gr gd gm gt gk ge g s2 l m2 T/\(0<=s2/\s2<=s+1200000000000000)/\Out (·=g) w w'/\Es W w'):=fun W2 gp db hS hZ=>by have:=YF hS rfl (n+1) ga n 0 cap c [] ys post (ys++post) [] W2 (by omega) hZ (by rw[nG]) rfl hn hd DS A_ ks GG (by have:=Qs DS;omega);refine this.mono ?_;rintro e w' ⟨xa,la,ca,rfl,k⟩;obtain⟨s2,m2,q1,q2,q3⟩:=k.at';refine⟨xa,la,ca,rfl,k.live _ (.head _),s2,m2,q1,⟨q2.1,?_⟩,q3,k.nc⟩;have h5:s2<=s+((c+zc n:Nat):Int):=q2.2;have:=Qs DS;omega
 clear hE hT h1 h2 h3 E k0 k1 hc o hb hZ hd p2 p9 GG;go_enter Tryz.func48,Tryz.ntmps48
 go_wp2_with fail
 refine(ae CT).mono ?_;rintro e w2 ⟨gp,db,rfl,hS,hZ⟩;have CD:=ag (ae CD _ _ _ hS hZ);clear hS hZ CT
 go_wp2_with fail
 refine(ae CD).mono ?_;rintro e w3 ⟨xa,la,ca,rfl,k1⟩;have HX:=ag k1;clear k1 CD;go_wp2;go_ret;exact⟨_,_,_,rfl,ae HX⟩
end
section
open Go.RowKit
theorem Y3(E D:List Nat)(r d pos:Nat)(h:E.length+D.length=pos):(E++(D++List.replicate (r+1) 0)).set pos d=E++((D++[d])++List.replicate r 0):=by subst h;rw[po _ _ (by omega),show E.length+D.length-E.length=D.length by omega,po _ _ (af _),gW,ij,F7];simp
theorem k_(b k:Nat)(l:List Nat)(i:Nat)(h:i<l.length):ex b k (l.take (i+1))=ex b k (l.take i)++pd b k (l.getD i 0):=by rw[gg h,Pg,aq,bj h,df]
theorem Cz:wS:=by
 intro w gz gw gv gr gd gm gt gk ge g s l m T u A b hE hu hb;have h1:(b:Int)<2:=by omega
 obtain⟨ua,ub,uo,uc,xs,rfl,_⟩:=hu;clear hE;go_enter Tryz.func21,Tryz.ntmps21;go_wp2
 go_ret2
 exact⟨_,_,rfl,aj _ _⟩
theorem tY:vM:=by
 intro w gz gw gv gr gd gm gt gk ge g s l m T u A b hE hT h0 h1 h2 h3 hu wA hb Wb;have CB:=ag (zy w b hb Wb);have CP:Hid (∀k p:Nat,p=b^k->p<18446744073709551616->4294967296<=p->Calls Tryz.prog 41 #[.pointer (some ⟨gz,0,none⟩),u,.int .u64 (p:Int)] w fun e w'=>∃n gb,e=.returned (.slice (some ⟨gb,0,none⟩) n n)/\A<p^n/\n<=8000/\w.heap.size<=gb/\cW w' gb (pd p n A)/\∃s' m',fc w' gz gw gv gr gd gm gt gk ge g s' l m' T/\(0<=s'/\s'<=s+1100000000000000)/\Out (·=g) w w'):=fun k p _ p9 p32=>TW w gz gw gv gr gd gm gt gk ge g s l m T u A p hE hT h0 h1 h2 (by omega) hu wA p32 p9;have hg:=hE.met.lt;have HE:=ag hE;have HB:=ag hb;obtain⟨ua,ub,uo,uc,xs,rfl,_⟩:=hu;have bI:¬(b:Int)<2:=by omega
 have b0:(0:Int)<(b:Int):=by omega
 have b1:¬(b:Int)=0:=by omega
 clear hE hT h0 h1 h2 h3 wA;go_enter Tryz.func21,Tryz.ntmps21
 go_wp2_with fail
 refine(ae CB).mono ?_;rintro e w1 ⟨k,p,rfl,hp,DF,p9,p32,hw⟩;obtain rfl:=hw.symm;clear hw CB;have CP:=ag (ae CP k p hp p9 p32);have hk9:k<64:=rN hb (by rw[<-hp];exact p9);have HP:=ag hp;clear hp
 go_wp2_with fail
 refine(ae CP).mono ?_;rintro e w1 ⟨n,gb,rfl,hA,DS,yQ,kW,s',m',E1,⟨k0,k1⟩,o1⟩;clear CP;have hp:=ae HP;obtain⟨kn,Pq⟩:∃kn,kn=k*n:=⟨_,rfl⟩;have afS:kn<=512000:=by rw[Pq];exact aP (show k<=64 by omega) DS
 have e1:(k:Int)*(n:Int)=(kn:Int):=by rw[Pq];push_cast;rfl
 have e2:IntKind.i64.wrap (kn:Int)=(kn:Int):=by rw[ao];omega
 have qG:=uK kn kn (kn:Int) rfl rfl (by omega);have gY:=qx w1 kn;have b2:Below w1.heap.size w1 (w1.alloc (.cells (dS kn).toArray 47)):=(aj _ _).alloc (af _) _;obtain⟨W2,Ru⟩:∃W2,w1.alloc (.cells (dS kn).toArray 47)=W2:=⟨_,rfl⟩;obtain⟨gl,nV⟩:∃gl,w1.heap.size=gl:=⟨_,rfl⟩;rw[Ru]at b2 gY;rw[nV]at gY;have afR:gb<gl:=by have:=kW.lt;omega
 have acm:=kW.next b2;have sz1:=o1.size;obtain⟨Bs,sO⟩:∃Bs,Bs=pd p n A:=⟨_,rfl⟩;rw[<-sO]at acm;have r_:Bs.length=n:=by rw[sO,oV]
 have HF:Hid (∀W,Out (·=gl) W2 W->cW W gl (ex b k Bs)->∃qa qb qo qn qc s' m',Ending.returned (.tuple #[.slice (some ⟨gl,0,none⟩) (dg b A).length kn,.int .i64 0])=Ending.returned (.tuple #[.slice qa qn qc,.int .i64 0])/\(dg b A).length=qn/\cH W qa qb qo qc (dg b A)/\(0<qn->w.heap.size<=qb)/\fc W gz gw gv gr gd gm gt gk ge g s' l m' T/\(0<=s'/\s'<=s+72057594037927936)/\Out (·=g) w W):=fun W o hB=>by
  have hA2:A<b^(k*n):=by rw[dH, <-hp];exact hA
  obtain⟨t1,t2⟩:=PL (ae HB) (k*n) A hA2;rw[sO,hp,VM]at hB;have hle:=tz (ae HB) (k*n) A hA2;have hr:=hB.rep 0 (dg b A).length kn (by rw[oV];omega) (by omega);rw[dN,t2]at hr;exact⟨_,gl,0,_,_,s',m',rfl,rfl,hr,fun _=>by omega,(ae HE).vV (E1.next b2) (o.mono (fun j e=>by omega)),⟨k0,by omega⟩,(o1.next b2).fresh o (fun i e=>Or.inr (by omega))⟩
 have CT:Hid (∀W,cW W gl (ex b k Bs)->Calls Tryz.prog 42 #[.slice (some ⟨gl,0,none⟩) kn kn] W fun e w'=>e=.returned (.slice (some ⟨gl,0,none⟩) (dg b A).length kn)/\w'=W):=fun W hB=>by
  have hA2:A<b^(k*n):=by rw[dH, <-hp];exact hA
  obtain⟨t1,t2⟩:=PL (ae HB) (k*n) A hA2;rw[sO,hp,VM]at hB;have hl:(pd b (k*n) A).length=kn:=by rw[oV,Pq]
  refine FX W _ gl 0 kn kn _ (pd b (k*n) A) hl (by omega) ?_ (by rw[Pq,t1]);have:=hB.rep 0 kn kn (by omega) (af _);rw[dN, <-hl,cf]at this;rw[hl]at this;exact this
 have hex:∀i,(ex b k (Bs.take i)).length=k*min i n:=fun i=>by rw[VL,cF,r_]
 have HX:=ag hex;have HT:Hid (∀i,i<n->ex b k (Bs.take (i+1))=ex b k (Bs.take i)++pd b k (Bs.getD i 0)):=fun i hi=>k_ b k Bs i (by omega);have HBd:Hid (∀i,i<n->Bs.getD i 0<18446744073709551616):=fun i hi=>by have h:=abt (p:=p) (by omega) n A (Bs.getD i 0) (by rw[<-sO,aq,bj (by omega),df];exact gO _);omega
 have HC:Hid (∀W,Out (·=gl) W2 W->∀i,i<n->W.cell? ⟨gb,i,none⟩=some (.int .u64 ((Bs.getD i 0:Nat):Int))):=fun W o i hi=>(o.kM acm (by omega)).cell i (by omega);have aeJ:Hid (Bs.take n=Bs):=by show _=_;rw[<-r_,cf]
 have HKN:=ag Pq;have I0:Hid (cW W2 gl (ex b k (Bs.take 0)++List.replicate (k*(n-0)) 0)):=by show cW _ _ _;rw[AU,lQ, <-Pq];exact gY
 have O0:Hid (Out (·=gl) W2 W2):=Out.refl _ _;clear Pq gY b2 kW acm E1 k0 k1 o1 hA sO r_ hp HP p9 p32 hex hg;go_wp2
 go_loopw [33] (fun iv wr=>∃i:Nat,i<=n/\iv=.int .i64 (i:Int)/\Hid (cW wr gl (ex b k (Bs.take i)++List.replicate (k*(n-i)) 0))/\Hid (Out (·=gl) W2 wr)) (fun iv _=>n-(intOf iv).toNat)
 case atStart=>exact⟨0,aO _,rfl,I0,O0⟩
 case round=>
  obtain⟨i,hi,rfl,hB,hO⟩:=hrel;by_cases qF:i<n
  ·have c1:=ae HC _ (ae hO) i qF;have hX9:=ae HBd i qF;obtain⟨X,hX⟩:∃X,X=Bs.getD i 0:=⟨_,rfl⟩;rw[<-hX]at c1 hX9;obtain⟨ki,Zi⟩:∃ki,ki=k*i:=⟨_,rfl⟩;have afc:ki+k<=kn:=by rw[Zi,ae HKN, <-cJ];exact au k (by omega)
   have f1:(k:Int)*(i:Int)=(ki:Int):=by rw[Zi];push_cast;rfl
   have f2:IntKind.i64.wrap (ki:Int)=(ki:Int):=by rw[ao];omega
   obtain⟨E,hE⟩:∃E,E=ex b k (Bs.take i):=⟨_,rfl⟩;obtain⟨R,hR⟩:∃R,R=k*(n-i):=⟨_,rfl⟩;have hEl:E.length=ki:=(by rw[hE,ae HX,bu (by omega),Zi]);have hRk:k<=R:=by rw[hR];exact abb k (by omega)
   have hRe:Hid (R-k=k*(n-(i+1))):=by show _=_;rw[hR,show n-i=n-(i+1)+1 by omega,cJ,dF]
   have J0:Hid (cW wr gl (E++(pd b 0 X++List.replicate (R-0) 0))):=by show cW _ _ _;rw[hE,hR];exact hB
   have OI:=ag (ae HT i qF);rw[<-hE, <-hX]at OI;have HEl:=ag hEl;have g1:(i:Int)<(n:Int):=(by omega);clear hB hX Zi hE hR hEl;go_wp2
   go_loopw [13,39] (fun xv jv ws=>∃(j x:Nat),j<=k/\jv=.int .i64 (j:Int)/\xv=.int .u64 (x:Int)/\Hid (x=X/b^j)/\x<18446744073709551616/\Hid (cW ws gl (E++(pd b j X++List.replicate (R-j) 0)))/\Hid (Out (·=gl) W2 ws)) (fun _ jv _=>k-(intOf jv).toNat)
   case atStart=>exact⟨0,X,aO _,rfl,rfl,by show _=_;rw[cL,nT],hX9,J0,hO⟩
   case round=>
    obtain⟨j,x,hj,rfl,rfl,hx,hx9,hB,hO2⟩:=hrel;by_cases hjk:j<k
    ·obtain⟨pos,vo⟩:∃pos,ki+j=pos:=⟨_,rfl⟩;have f3:(ki:Int)+(j:Int)=(pos:Int):=(by omega);have f4:IntKind.i64.wrap (pos:Int)=(pos:Int):=by rw[ao];omega
     have f5:pos<kn:=(by omega);have f6:(pos:Int)<(kn:Int):=(by omega);have f7:0<=(pos:Int):=(by omega);obtain⟨y,hy⟩:∃y,y=x%b:=⟨_,rfl⟩;obtain⟨x2,Fb⟩:∃x2,x2=x/b:=⟨_,rfl⟩;have r1:(x:Int)%(b:Int)=(y:Int):=by rw[hy];rfl
     have r2:(x:Int)/(b:Int)=(x2:Int):=by rw[Fb];rfl
     have ry:y<b:=by rw[hy];exact aD _ (by have:=ae HB;omega)
     have rx:x2<=x:=by rw[Fb];exact bT _ _
     have r3:IntKind.u64.wrap (y:Int)=(y:Int):=by rw[aK];omega
     have r4:IntKind.u64.wrap (x2:Int)=(x2:Int):=by rw[aK];omega
     have hs:=(ae hB).set pos y;have hlen:(E++(pd b j X++List.replicate (R-j) 0)).length=ki+R:=by simp only[List.length_append,List.length_replicate,oV,ae HEl];omega
     have hc:=(ae hB).cell pos (by omega);have hf:=(ae hB).frozen pos;rw[show R-j=(R-(j+1))+1 by omega,Y3 E (pd b j X) (R-(j+1)) y pos (by rw[oV,ae HEl];exact vo)]at hs;have hyy:y=X/b^j%b:=(by rw[hy,ae hx]);rw[hyy, <-PK, <-hyy]at hs;have ID:=ag hs;have I6:Hid (x2=X/b^(j+1)):=by show _=_;rw[Fb,ae hx,cI,aE]
     have HO2:Hid (Out (·=gl) W2 (wr.setCell ⟨gl,pos,none⟩ (.int .u64 (y:Int)))):=(ae hO2).trans (Out.bX (aY _ _ _ _));have Uj:(j:Int)<(k:Int):=(by omega);generalize (E++(pd b j X++List.replicate (R-(j+1)+1) 0)).getD pos 0=jD at *;generalize (E++(pd b j X++List.replicate (R-j) 0)).getD pos 0=jD at *;clear hB hO2 hs hyy hx hy Fb hlen vo;go_wp2
     go_roundw
     case rel=>exact⟨j+1,x2,by omega,by go_num,rfl,I6,by omega,ID,HO2⟩
     case measure=>simp[intOf];omega
    ·obtain rfl:j=k:=(by omega);have ID:Hid (cW wr gl (ex b j (Bs.take (i+1))++List.replicate (j*(n-(i+1))) 0)):=by show cW _ _ _;rw[ae OI, <-ae hRe,fB];exact hB
     clear hB hx;go_wp2
     go_roundw
     case rel=>exact⟨i+1,by omega,by go_num,ID,hO2⟩
     case measure=>simp[intOf];omega
  ·obtain rfl:i=n:=(by omega);have wa:cW wr gl (ex b k Bs):=by have:=ae hB;rw[gW,dO,mj,dU,ae aeJ]at this;exact this
   have CT:=ag (ae CT _ wa);have Ua:=ag (ae HF _ (ae hO) wa);have g1:¬(i:Int)<(i:Int):=(by omega);clear hB wa HF
   go_wp2_with fail
   refine(ae CT).mono ?_;rintro e w9 ⟨rfl,hw⟩;obtain rfl:=hw.symm;clear hw CT;go_wp2
   go_ret2
   exact ae Ua
end
section
open Go.RowKit Go.Shelf
attribute [local go_sem] Oper.semAt_some
set_option linter.unusedSimpArgs false
theorem Ii:AZ:=by
 intro w gz gw gv gr gd gm gt gk ge g s l m T u A z hE hu hz z0 z1;have CI:=ag (oN w z);rw[aM (by omega)]at CI;obtain⟨ua,ub,uo,uc,xs,rfl,_⟩:=hu;clear hE;go_enter Tryz.func12,Tryz.ntmps12
 go_wp2_with fail
 refine(ae CI).mono ?_;rintro e w2 ⟨rfl,hw⟩;obtain rfl:=hw.symm;clear hw CI;go_wp2
 go_ret2
 exact⟨rfl,aj _ _⟩
theorem U_:∀d:Fin 36,((⟨#[48,49,50,51,52,53,54,55,56,57,97,98,99,100,101,102,103,104,105,106,107,108,109,110,111,112,113,114,115,116,117,118,119,120,121,122]⟩:ByteArray)[d.val]'d.2)=vk d.val:=by decide+kernel
theorem acN(d:Nat)(h:d<(⟨#[48,49,50,51,52,53,54,55,56,57,97,98,99,100,101,102,103,104,105,106,107,108,109,110,111,112,113,114,115,116,117,118,119,120,121,122]⟩:ByteArray).size):(⟨#[48,49,50,51,52,53,54,55,56,57,97,98,99,100,101,102,103,104,105,106,107,108,109,110,111,112,113,114,115,116,117,118,119,120,121,122]⟩:ByteArray)[d]=vk d:=U_ ⟨d,h⟩
def mby(n:Nat):Array Value:=madeCells (Value.int .u8 0).cells n
theorem Xe(n:Nat):(mby n).size=n:=by simp[mby,madeCells]
theorem W_(n:Nat)(hn:n<=1000000):∀w,(Instr.makeSlice 61 (.int .i64 0) (.int .i64 (n:Int))).run Tryz.prog w=.ok (.slice (some ⟨w.heap.size,0,none⟩) 0 n) (w.alloc (.cells (mby n) 5)):=fun w=>by
 obtain⟨i0,hi,jx,gY,fX⟩:=rG Tryz.WJ;have h:=Fv (P:=Tryz.prog) w 61 5 i0 (.int .u8 0) jZ hi jx .i64 .i64 0 (n:Int) (by omega) (by omega) (by rw[fX];omega) (by omega);rw[h];have e1:((n:Int)).toNat=n:=by omega
 rw[e1,gY,dG];rfl
theorem X_(w:World)(n base:Nat)(hn:n<=1000000)(hb:base<=w.heap.size):(w.alloc (.cells (mby n) 5)).ownsRow base 5 1 (.slice (some ⟨w.heap.size,0,none⟩) 0 n) 0 []:=
 ⟨rfl,Or.inr ⟨w.heap.size,n,mby n,rfl,hb,aI w _,aO _,by unfold maxLen;omega,by rw[Xe,dG],by simp⟩⟩
def TxI(w1:World)(PB PS:Nat)(ys:List Nat)(ga:Option Addr)(n cap r:Nat)(W:World):Prop:=
 (∃v,Boxed W PB 61 v/\W.ownsRow w1.heap.size 5 1 v r (Mw (ys.reverse.take r)))/\Boxed W PS 24 (.slice ga n cap)/\Out (fun j=>w1.heap.size<=j) w1 W
theorem TxI.own{w1:World}{PB PS:Nat}{cap:Nat}(hb:w1.heap.size<=base):OwnFrom base (TxI w1 PB PS ys ga n cap):=fun r A B row hs hg hr=>by obtain⟨⟨v,h1,h2⟩,h3,h4⟩:=hs;have kc:=tK hg hr;exact⟨⟨v,kc.boxed h1,kc.owns h2⟩,kc.boxed h3,h4.trans (uE hb hg hr)⟩
theorem oF:mW:=by
 intro w gz gw gv gr gd gm gt gk ge g s l m T u A b hE hT h0 h1 h2 h3 hu wA hb Wa;have CI:=ag (oN w (b:Int));rw[bg (by omega)]at CI;have CD:=ag (tY w gz gw gv gr gd gm gt gk ge g s l m T u A b hE hT h0 h1 h2 h3 hu wA hb (by omega));have bw:IntKind.u64.wrap (b:Int)=(b:Int):=by rw[aK];omega
 obtain⟨n,hn⟩:∃n,n=(dg b A).length:=⟨_,rfl⟩;have hA:=jM wA;have DS:n<=6400:=by
  obtain⟨N,hN⟩:∃N,N=100:=⟨_,rfl⟩;rw[<-hN]at hA;have h5:(18446744073709551616:Nat)^N=2^(64*N):=by rw[dH]
  rw[h5]at hA;have:=tz hb (64*N) A (az hA (di hb _));omega
 clear hA;obtain⟨ua,ub,uo,uc,xs,rfl,_⟩:=hu;have HN:=ag hn;clear hE hT h0 h1 h2 h3 wA hn;by_cases Uk:n=0
 ·have Bu:txt b A=[48]:=by
   rcases Qm b A with h|h
   ·unfold txt;rw[aW h]
   ·have:=LI hb Wa A;rw[h]at this;rw[ae HN]at Uk;rw[dQ.1 Uk]at this;simp at this
  rw[Bu];go_enter Tryz.func12,Tryz.ntmps12
  go_wp2_with fail
  refine(ae CI).mono ?_;rintro e w2 ⟨rfl,hw⟩;obtain rfl:=hw.symm;clear hw CI
  go_wp2_with fail
  refine(ae CD).mono ?_;rintro e w1 ⟨qa,qb,qo,qn,qc,s',m',rfl,IJ,ld,F',E1,GO,o1⟩;rw[<-ae HN,Uk]at IJ;subst IJ;have HX:=ag (And.intro E1 (And.intro GO o1));clear CD ld F' E1 GO o1;go_wp2
  go_ret2
  exact⟨s',m',rfl,ae HX⟩
 ·have hT2:txt b A=(((dg b A).map vk).reverse):=by
   rcases Qm b A with h|h
   ·rw[h,py]at HN;exact absurd (ae HN) Uk
   ·exact h
  rw[hT2];have Zp:=ag (fun ga cap w=>Ex 7 ga n cap w);have qG:=W_ n (by omega);have HTT:=ag hT2;clear hT2;refine(du (n:=8)).1 ?_;refine callsIn_of_wp_marks Tryz.func12 rfl trivial ?_ rfl;simp only[Tryz.ntmps12,List.size_toArray,List.length_cons,List.length_nil,Nat.reduceAdd,Nat.reduceSub,Array.replicate_succ,Array.replicate_zero,List.push_toArray,List.append_toArray,List.nil_append,List.cons_append]
  gi_wp2
  refine⟨trivial,?_⟩;refine(du.2 (ae CI)).mono ?_;rintro e w2 ⟨rfl,hw⟩;obtain rfl:=hw.symm;clear hw CI
  gi_wp2
  refine⟨trivial,?_⟩;refine(du.2 (ae CD)).mono ?_;rintro e w1 ⟨qa,qb,qo,qn,qc,s',m',rfl,IJ,ld,F',E1,GO,o1⟩;rw[<-ae HN]at IJ;subst IJ;clear CD
  gi_wp2
  refine⟨trivial,?_⟩;refine(ae Zp _ _ _).mono ?_;rintro e W4' ⟨rfl,hw⟩;obtain⟨P1,Gx⟩:∃P1,w1.heap.size=P1:=⟨_,rfl⟩;obtain⟨W4,wb⟩:∃W4,((w1.alloc (.cells (mby n) 5)).alloc (.cells #[.slice (some ⟨w1.heap.size,0,none⟩) 0 n] 61)).alloc (.cells #[.slice qa n qc] 24)=W4:=⟨_,rfl⟩;rw[wb]at hw;obtain rfl:=hw.symm;clear hw Zp;have b4:Below w1.heap.size w1 W4:=by rw[<-wb];exact(((aj _ w1).alloc (af _) _).alloc (by simp) _).alloc (by simp;omega) _
  have x1:Boxed W4 (P1+1) 61 (.slice (some ⟨P1,0,none⟩) 0 n):=by have:=(Boxed.new (w1.alloc (.cells (mby n) 5)) 61 (.slice (some ⟨w1.heap.size,0,none⟩) 0 n)).alloc (.cells #[.slice qa n qc] 24);rw[wb,aL,Gx]at this;exact this
  have xS:Boxed W4 (P1+1+1) 24 (.slice qa n qc):=by have:=Boxed.new ((w1.alloc (.cells (mby n) 5)).alloc (.cells #[.slice (some ⟨w1.heap.size,0,none⟩) 0 n] 61)) 24 (.slice qa n qc);rw[wb,aL,aL,Gx]at this;exact this
  have ow:W4.ownsRow w1.heap.size 5 1 (.slice (some ⟨P1,0,none⟩) 0 n) 0 []:=by have:=((X_ w1 n w1.heap.size (by omega) (af _)).alloc (.cells #[.slice (some ⟨w1.heap.size,0,none⟩) 0 n] 61)).alloc (.cells #[.slice qa n qc] 24);rw[wb,Gx]at this;rw[Gx];exact this
  have sz4:W4.heap.size=P1+1+1+1:=by rw[<-wb];simp[Gx]
  obtain⟨ys,RP⟩:∃ys,ys=dg b A:=⟨_,rfl⟩;have kt:ys.length=n:=by rw[RP];exact(ae HN).symm
  have hyd:∀d,d ∈ ys->d<b:=by rw[RP];exact Pd hb A
  rw[<-RP]at ld;have GG:0<n->qa=some ⟨qb,qo,none⟩:=fun h=>ld.head (by omega);have Wr:=ld.next b4;have SQ:=ag (Be 7 (by omega) (P1+1+1) qb qo n qc qa GG (by omega) ys kt W4 xS.lt xS.cell (fun j hj=>Wr.cell j (by omega)));have wc:=Wr.lt (by omega);have afL:=ld.lt (by omega);have r_:=xS.lt;have I0:Hid (TxI w1 (P1+1) (P1+1+1) ys qa n qc 0 W4):=⟨⟨_,x1,by rw[AU];exact ow⟩,xS,Out.bQ b4⟩;have HE:=ag (And.intro E1 (And.intro GO o1));have HYD:=ag hyd;have HYS:=ag RP;clear b4 x1 xS ow hyd RP ld Wr F' E1 GO o1
  gi_wp2
  refine wh (by omega) (gf:=50) (lb:=#[.pointer (some ⟨P1+1+1,0,none⟩)]) rfl (enters_of Tryz.func50 (by kernel_rfl) rfl)
   (ae SQ) (aj _ _) rI (AD r_ wc) (fun _=>rfl)
   (TxI w1 (P1+1) (P1+1+1) ys qa n qc) (TxI.own (by omega)) (ae I0)
   (fun x=>{ tmps:=#[.pointer (some ⟨gz,0,none⟩),.slice ua xs.length uc,.int .i64 (b:Int),undef,undef,undef,.string ⟨#[]⟩,.int .i64 0,.slice qa n qc,.int .i64 0,.pointer (some ⟨P1+1,0,none⟩),undef,.int .u64 ((ys.getD (n-1-x) 0:Nat):Int),.int .i64 (b:Int),.bool true,.bool false,.tuple #[.slice qa n qc,.int .i64 0],.pointer (some ⟨gz,0,none⟩),.slice ua xs.length uc,.int .i64 (b:Int),.int .u64 (b:Int),.tuple #[.slice qa n qc,.int .i64 0],.slice qa n qc,.int .i64 0,.slice qa n qc,.int .i64 (n:Int),.bool false,undef,.slice qa n qc,.int .i64 (n:Int),.slice (some ⟨P1,0,none⟩) 0 n,.slice qa n qc,.func (.func 50) #[] #[.pointer (some ⟨P1+1+1,0,none⟩)],.int .i64 ((n-1-x:Nat):Int),.int .u64 ((ys.getD (n-1-x) 0:Nat):Int),undef,undef,undef,undef,undef,undef,undef],defers:=[] }) ?assign ?body ?done
  case assign=>
   intro lp x W5 K2 xt;revert xt;dsimp only;generalize ys.getD (n-1-x) 0=d;intro xt
   gi_wp2
   exact xt
  case body=>
   rintro lp x W5 hx Rq;obtain⟨⟨v,hv,ho⟩,w_,hO⟩:=Rq;obtain⟨d,hd⟩:∃d,d=ys.getD (n-1-x) 0:=⟨_,rfl⟩;have ae8:d<36:=by
    have hm:d ∈ ys:=by rw[hd,aq,bj (by omega),df];exact gO _
    have:=ae HYD d hm;omega
   dsimp only;rw[<-hd];have cv:=hv.cell;have hd3:(d:Int)<36:=(by omega);obtain⟨i0,hi,jx,gY,fX⟩:=rG Tryz.WJ;obtain⟨v',IQ,ir,c1,f1,y1,y2,y3,y4,va,LJ,vc,Wz⟩:=OQ (u:=.int .u8 ((vk d).toNat:Int)) jZ hi jx gY fX rfl (by omega) (by decide) (show Boxed W5.drew (P1+1) 61 v from hv) (show W5.drew.ownsRow w1.heap.size 5 1 v x _ from ho) (by omega) rfl (ak hO.size (af _));subst Wz;have hkf:KeepsFrom W4.heap.size W5 (IQ.setCell ⟨P1+1,0,none⟩ (.slice va LJ vc)):=⟨y4.size,fun j ob hk hj Um=>y3 j ob hj (Or.inr (fun cur e=>by rw[e]at Um;cases Um)) (fun e=>by omega)⟩;have hkr:mV (P1+1+1) qb qo n W5 (IQ.setCell ⟨P1+1,0,none⟩ (.slice va LJ vc)):=by have q5:Boxed W5 (P1+1+1) 24 (.slice qa n qc):=w_;have q6:Boxed (IQ.setCell ⟨P1+1,0,none⟩ (.slice va LJ vc)) (P1+1+1) 24 (.slice qa n qc):=y3 _ _ q5 (Or.inr (fun cur e=>by injection e with e1 e2;revert e2;decide)) (by omega);refine⟨q6.cell.trans q5.cell.symm,fun j hj=>cZ (a:=⟨qb,qo+j,none⟩) (y4.block qb ?_ (by omega))⟩;have:=hO.size;show qb<W5.heap.size;omega
   have hfi:TxI w1 (P1+1) (P1+1+1) ys qa n qc (x+1) (IQ.setCell ⟨P1+1,0,none⟩ (.slice va LJ vc)):=by
    refine⟨⟨_,y1,?_⟩,?_,hO.trans ((Cb y4).mono (fun j e=>by omega))⟩
    ·have e:Mw (ys.reverse.take (x+1))=Mw (ys.reverse.take x)++[.int .u8 ((vk d).toNat:Int)]:=by
      have hl:x<ys.reverse.length:=by rw[jG];omega
      rw[gg hl];unfold Mw;rw[rh,Er,List.map_nil];have e2:ys.reverse[x]=d:=by rw[List.getElem_reverse,hd,aq,bj (by omega),df];congr 1;omega
      rw[e2]
     rw[e];exact y2
    ·exact y3 _ _ w_ (Or.inr (fun cur e=>by injection e with e1 e2;revert e2;decide)) (by omega)
   have Ua:=ag (And.intro hkf (And.intro hkr hfi));clear hd hkf hkr hfi y1 y2 y3 y4 ho w_ hO
   gi_wp2
   refine rR 5 (fun w'=>w'.cell? ⟨P1+1,0,none⟩=some v) (by kernel_rfl) (by kernel_rfl) (fun⟨_,_,h⟩=>h) (by kernel_rfl) (by rfl) (by kernel_rfl) (by kernel_rfl) cv (fun hHeld=>?_);simp only[List.take_succ_cons,List.take_zero,List.drop_succ_cons,List.drop_zero];refine kH 0 (by assumption) ?_;simp only[Act.put,List.setIfInBounds_toArray,List.set_cons_zero,List.set_cons_succ];refine kH 1 (by assumption) ?_;simp only[Act.put,List.setIfInBounds_toArray,List.set_cons_zero,List.set_cons_succ];refine tk 2 (v:=.int .u8 ((vk d).toNat:Int)) rfl (by rfl) ?_ (by assumption) ?_
   ·intro w hSw;(try dsimp only at hSw);go_simp;exact gi (fun z:UInt8=>(z.toNat:Int)) (acN d ae8)
   simp only[Act.put,List.setIfInBounds_toArray,List.set_cons_zero,List.set_cons_succ];generalize (vk d).toNat=z at *;refine wpAnyH_ready (rs:=[3]) (by kernel_rfl) (by simp) ?_;refine AllReadyH.cons (o:=_) rfl (fun Kx hK=>?_) AllReadyH.nil;go_simp;refine hK.out _ _ (fF cv _) (fun hHeld=>?_);clear hK Kx
   (try simp only[Act.put,List.setIfInBounds_toArray,List.set_cons_zero,List.set_cons_succ])
   refine wpAnyH_ready (rs:=[4]) (by kernel_rfl) (by simp) ?_;refine AllReadyH.cons (o:=_) rfl (fun Kx hK=>?_) AllReadyH.nil;refine fH rfl (.tmp 35) (.tmp 38) 61 rfl rfl rfl ir ?_;refine hK.out _ _ c1 (fun hHeld=>?_);clear hK Kx
   (try simp only[Act.put,List.setIfInBounds_toArray,List.set_cons_zero,List.set_cons_succ])
   refine wpAnyH_done (by kernel_rfl) ?_ _;show wpList _ _ _ _ _ _;clear hHeld ir;go_wp2;exact ae Ua
  case done=>
   rintro D W5 hD Rq MT;dsimp only;obtain⟨⟨v,hv,ho⟩,_,hO⟩:=Rq;rw[<-kt, <-jG,cf]at ho;have cv:=hv.cell;have hM:Hid (Marks w1.heap.size W5 W5.heap.size [{ target:=.collected D,args:=#[] }]):=⟨D,rfl,by omega,(ah.1 MT).1,MT,trivial⟩;have Mh:(ys.reverse).length=n:=by rw[jG];exact kt
   rw[Mh]at ho;obtain⟨g2,c2,rfl⟩:∃g2 c2,v=.slice (some ⟨g2,0,none⟩) n c2:=by
    rcases ho.2 with⟨_,e⟩|⟨g',bM,cur,e,_⟩
    ·omega
    ·exact⟨g',bM,e⟩
   have Nc:=aeI (P:=Tryz.prog) W5 61 9 5 ⟨g2,0,none⟩ c2 (ys.reverse.map vk) jZ rfl rfl (fun j hj=>by rw[nF]at hj;have:=(ho.cellAt j (by omega)).trans (Ge ys.reverse j (by omega));rw[Ao,bh,this];simp[List.getD_eq_getElem?_getD,List.getElem?_eq_getElem hj]);rw[nF,Mh]at Nc;have Wg:Hid ((⟨(ys.reverse.map vk).toArray⟩:ByteArray)=⟨⟨((dg b A).map vk).reverse⟩⟩):=by show _=_;rw[List.map_reverse,ae HYS]
   generalize (⟨(ys.reverse.map vk).toArray⟩:ByteArray)=Z at *;have HX:Hid (∀W',Kc W5 W'->Out (fun j=>w1.heap.size<=j) W5 W'->fc W' gz gw gv gr gd gm gt gk ge g s' l m' T/\(0<=s'/\s'<=s+72057594037927936)/\Out (·=g) w W'):=fun W' kc o=>by obtain⟨E1,hs,o1⟩:=ae HE;have b:=(hO.trans o).below (af _) (fun k h=>h);exact⟨E1.next b,hs,o1.next b⟩
   clear hv ho hO MT I0 SQ
   gi_wp2
   refine kN (ae hM) (fun W' kc o=>?_);refine⟨_,gG rfl _ _ _,?_⟩;rw[ae Wg];exact⟨s',m',rfl,ae HX W' kc o⟩
theorem Pl(hl:xs.length=n):(∃d,d ∈ xs/\b<=d)↔∃j,j<n/\b<=xs.getD j 0:=by
 constructor
 ·rintro⟨d,hd,hb⟩;obtain⟨j,hj,e⟩:=mh hd;exact⟨j,by omega,by rw[aq,bj hj,df,e];exact hb⟩
 ·rintro⟨j,hj,hb⟩;rw[aq,bj (by omega),df]at hb;exact⟨_,gO _,hb⟩
theorem xY(w:World)(gz:Nat)(ga:Option Addr)(ba oa ca la b:Nat)(xs:List Nat)(hl:xs.length=la)(fA:la<=6000)(hR:cH w ga ba oa ca xs)(Wb:b<18446744073709551616)(RJ:b<2\/∃d,d ∈ xs/\b<=d):Calls Tryz.prog 25 #[.pointer (some ⟨gz,0,none⟩),.int .u64 (b:Int),.slice ga la ca] w fun e w'=>∃qa qc,e=.returned (.tuple #[.slice qa 0 qc,.int .i64 1])/\Below w.heap.size w w':=by
 have bx:Below w.heap.size w (w.alloc (.cells #[.int .u64 (b:Int)] 47)):=(aj _ _).alloc (af _) _;have xb:=Boxed.new w 47 (.int .u64 (b:Int));have HX:=ag bx;have cb:=xb.cell;by_cases hb:b<2
 ·have h4:(b:Int)<2:=by omega
  clear RJ hR xb bx;go_enter Tryz.func25,Tryz.ntmps25;go_wp2
  go_ret2
  exact⟨none,0,rfl,ae HX⟩
 ·have h4:¬(b:Int)<2:=by omega
  have h5:∃d,d ∈ xs/\b<=d:=by
   rcases RJ with h|h
   ·omega
   ·exact h
  have CH:=ag (ER (w.alloc (.cells #[.int .u64 (b:Int)] 47)) w.heap.size b ga ba oa ca la xs true cb hl (by omega) (hR.next bx) ⟨fun _=>(Pl hl).1 h5,fun _=>rfl⟩);clear RJ hR xb bx h5;go_enter Tryz.func25,Tryz.ntmps25
  go_wp2_with fail
  refine(ae CH).mono ?_;rintro e w2 ⟨rfl,hw⟩;obtain rfl:=hw.symm;clear hw CH;go_wp2
  go_ret2
  exact⟨none,0,rfl,ae HX⟩
theorem pZ.set{PB:Nat}(h:pZ W base v n xs)(hp:PB<base)(u:Value):pZ (W.setCell ⟨PB,0,none⟩ u) base v n xs:=by
 obtain⟨hl,h⟩:=h;refine⟨hl,?_⟩;rcases h with h|⟨g,ys,hb,e,hk,hm⟩
 ·exact Or.inl h
 ·exact Or.inr ⟨g,ys,hb,e,(bo _ _ _ _ (by show g≠PB;omega)).trans hk,hm⟩
theorem Eg:zv:=by intro w gz gw gv gr gd gm gt gk ge g s l m T ga ba oa ca la b xs hE hT h0 h1 h2 h3 hl fA hR Wb hx9 RJ;refine(xY w gz ga ba oa ca la b xs hl (by omega) hR Wb RJ).mono ?_;rintro e w' ⟨qa,qc,rfl,bx⟩;exact⟨qa,qc,s,m,rfl,hE.next bx,⟨h0,by omega⟩,Out.bQ bx⟩
theorem vw{F:Fence}{P:Program}(w:World){ops:Array Oper}{rest:List Oper}{o:Oper}{a:Act}{Q:Exit->Act->World->Prop}(hg:o.guard=none)(s x:Operand)(t:TypeId)(rE:o.op=Op.call { callee:=Callee.builtin Builtin.append,args:=#[s,x],argTypes:=#[t,t] }){u v':Value}{w':World}(hs:a.eval s=v)(hx:a.eval x=u)(ir:(Builtin.append_ #[t,t] o.type #[v,u]).run P w=.ok v' w')(hK:wpListIn F n P ops Q rest (a.put o.dst v') w'):wpListIn F n P ops Q (o :: rest) a w:=by
 refine wpListIn_plain hg fun K hK'=>?_;unfold Oper.wpIn;refine⟨?_,?_⟩
 ·simp[Oper.about,rE,resolve,Target.leads,Sem.run_pure]
 ·rw[Oper.semAt_plain F _ _ (by rw[rE];intro c hc';cases hc')];simp[execOp,rE,resolve,invoke,builtin,hs,hx,ir,Result.andThen];exact hK' _ _ hK
def VI(w:World)(base P0:Nat)(b k m:Nat)(ys:List Nat)(ga:Option Addr)(ca r:Nat)(W:World):Prop:=
 Boxed W P0 47 (.int .u64 (b:Int))/\(∃v,Boxed W (P0+1) 24 v/\pZ W base v r (JA b k ys r))/\Boxed W (P0+1+1) 38 (.slice ga m ca)/\Boxed W (P0+1+1+1) 3 (.int .i64 (k:Int))/\Out (fun j=>w.heap.size<=j) w W
theorem pZ.kc(h:pZ W base v n xs)(kc:Kc W W'):pZ W' base v n xs:=by
 obtain⟨hl,h⟩:=h;refine⟨hl,?_⟩;rcases h with h|⟨g,ys,hb,e,hk,hm⟩
 ·exact Or.inl h
 ·exact Or.inr ⟨g,ys,hb,e,(kc _ _ hk rfl).trans hk,hm⟩
theorem pZ.out{D:Nat->Prop}(h:pZ W base v n xs)(o:Out D W W')(hd:∀j,base<=j->j<W.heap.size->¬D j):pZ W' base v n xs:=by
 obtain⟨hl,h⟩:=h;refine⟨hl,?_⟩;rcases h with h|⟨g,ys,hb,e,hk,hm⟩
 ·exact Or.inl h
 ·exact Or.inr ⟨g,ys,hb,e,o.kM hk (hd g hb hk.lt),hm⟩
theorem VI.own{P0 k m:Nat}{ca:Nat}(hb:w.heap.size<=Ju):OwnFrom Ju (VI w base P0 b k m ys ga ca):=fun r A B row hs hg hr=>by obtain⟨h1,⟨v,h2,h3⟩,h4,h5,h6⟩:=hs;have kc:=tK hg hr;exact⟨kc.boxed h1,⟨v,kc.boxed h2,h3.kc kc⟩,kc.boxed h4,kc.boxed h5,h6.trans (uE hb hg hr)⟩
def VJ(W5:World)(P5 b:Nat)(ds:List Nat)(pv:Value)(r:Nat)(W:World):Prop:=
 Boxed W P5 47 (.int .u64 ((vl b (ds.drop (ds.length-r)):Nat):Int))/\Boxed W (P5+1) 38 pv/\Out (fun j=>P5<=j) W5 W
theorem VJ.own{W5:World}{P5:Nat}{pv:Value}(hb:P5<=Ju):OwnFrom Ju (VJ W5 P5 b ds pv):=fun r A B row hs hg hr=>by obtain⟨h1,h2,h3⟩:=hs;have kc:=tK hg hr;exact⟨kc.boxed h1,kc.boxed h2,h3.trans ⟨hg.os,hg.tape,hg.output,hg.size,fun j hj hn=>hg.block j hj (fun e=>by have:=(hr j e.symm).1;omega)⟩⟩
theorem FJ(w:World)(gz gw gv gr gd gm gt gk ge g:Nat)(s l m:Int)(T:bJ)(ga:Option Addr)(ba oa ca la b:Nat)(xs:List Nat)(hE:fc w gz gw gv gr gd gm gt gk ge g s l m T)(hT:TB w)(h0:0<=s)(h1:s<=288230376151711744)(h2:0<=l)(h3:l<=800)(hl:xs.length=la)(fA:la<=6000)(hR:cH w ga ba oa ca xs)(hb:2<=b)(Wb:b<18446744073709551616)(hx:∀d,d ∈ xs->d<b):Calls Tryz.prog 25 #[.pointer (some ⟨gz,0,none⟩),.int .u64 (b:Int),.slice ga la ca] w fun e w'=>∃q s' m',e=.returned (.tuple #[q,.int .i64 0])/\aU w.heap.size w' q (vl b xs)/\fc w' gz gw gv gr gd gm gt gk ge g s' l m' T/\(0<=s'/\s'<=s+72057594037927936)/\Out (·=g) w w'/\Es w w':=by
 obtain⟨P0,ke⟩:∃P0,w.heap.size=P0:=⟨_,rfl⟩;have bx:Below w.heap.size w (w.alloc (.cells #[.int .u64 (b:Int)] 47)):=(aj _ _).alloc (af _) _;have xb:=Boxed.new w 47 (.int .u64 (b:Int));have cb:=xb.cell;have h4:¬(b:Int)<2:=by omega
 have CH:=ag (ER (w.alloc (.cells #[.int .u64 (b:Int)] 47)) w.heap.size b ga ba oa ca la xs false cb hl (by omega) (hR.next bx) ⟨(fun h=>by cases h),fun h=>by obtain⟨d,hd,hbd⟩:=(Pl hl).2 h;have:=hx d hd;omega⟩);have CB:=ag (fun W=>zy W b hb Wb);obtain⟨mm,vH⟩:∃mm,mm=fV xs la:=⟨_,rfl⟩;have hml:mm<=la:=by rw[vH];exact fZ xs la
 have CTr:=ag (fun W (hb:Below w.heap.size w W)=>FX W ga ba oa ca la mm xs hl (by omega) (hR.next hb) vH);obtain⟨ys,RP⟩:∃ys,ys=xs.take mm:=⟨_,rfl⟩;have kt:ys.length=mm:=by rw[RP,cF];omega
 have hyv:vl b ys=vl b xs:=by rw[RP,vH, <-hl];exact adn b xs
 have hyd:∀d,d ∈ ys->d<b:=fun d hd=>hx d (lF (by rw[<-RP];exact hd));have hRy:cH w ga ba oa ca ys:=by rw[RP];exact hR.take mm (by omega)
 rw[ke]at CH cb;have HE:=ag hE;have HT:=ag hT;have HR:=ag hRy;have HYD:=ag hyd;have HB:=ag hb;clear hR vH RP hyd hRy hx xb bx;refine(du (n:=9)).1 ?_;refine callsIn_of_wp_marks Tryz.func25 rfl trivial ?_ rfl;simp only[Tryz.ntmps25,List.size_toArray,List.length_cons,List.length_nil,Nat.reduceAdd,Nat.reduceSub,Array.replicate_succ,Array.replicate_zero,List.push_toArray,List.append_toArray,List.nil_append,List.cons_append]
 gi_wp2
 refine⟨trivial,?_⟩;refine(du.2 (ae CH)).mono ?_;rintro e w2 ⟨rfl,hw⟩;obtain rfl:=hw.symm;clear hw CH
 gi_wp2
 refine⟨trivial,?_⟩;refine(du.2 (ae CB _)).mono ?_;rintro e w2 ⟨k,p,rfl,hp,DF,p9,p32,hw⟩;obtain rfl:=hw.symm;have HP:=ag hp;have hk9:k<64:=rN hb (by rw[<-hp];exact p9);clear hw CB hp
 gi_wp2
 refine⟨trivial,?_⟩;refine(du.2 (ae CTr _ (((aj _ _).alloc (af _) _).alloc (by simp) _))).mono ?_;rintro e w2 ⟨rfl,hw⟩;obtain rfl:=hw.symm;clear hw CTr
 gi_wp2
 refine⟨trivial,?_⟩;obtain⟨W4,wb⟩:∃W4,(((w.alloc (.cells #[.int .u64 (b:Int)] 47)).alloc (.cells #[.slice none 0 0] 24)).alloc (.cells #[.slice ga mm ca] 38)).alloc (.cells #[.int .i64 (k:Int)] 3)=W4:=⟨_,rfl⟩;refine(yN 8 ga mm ca k ((w.alloc (.cells #[.int .u64 (b:Int)] 47)).alloc (.cells #[.slice none 0 0] 24)) DF).mono ?_;rintro e W4' ⟨rfl,hw⟩;rw[wb]at hw;obtain rfl:=hw.symm;clear hw;rw[aL,aL,ke];have b4:Below w.heap.size w W4:=by rw[<-wb];exact((((aj _ w).alloc (af _) _).alloc (by simp) _).alloc (by simp;omega) _).alloc (by simp;omega) _
 have x0:Boxed W4 P0 47 (.int .u64 (b:Int)):=by have:=(((Boxed.new w 47 (.int .u64 (b:Int))).alloc (.cells #[.slice none 0 0] 24)).alloc (.cells #[.slice ga mm ca] 38)).alloc (.cells #[.int .i64 (k:Int)] 3);rw[wb,ke]at this;exact this
 have x1:Boxed W4 (P0+1) 24 (.slice none 0 0):=by have:=((Boxed.new (w.alloc (.cells #[.int .u64 (b:Int)] 47)) 24 (.slice none 0 0)).alloc (.cells #[.slice ga mm ca] 38)).alloc (.cells #[.int .i64 (k:Int)] 3);rw[wb,aL,ke]at this;exact this
 have x2:Boxed W4 (P0+1+1) 38 (.slice ga mm ca):=by have:=(Boxed.new ((w.alloc (.cells #[.int .u64 (b:Int)] 47)).alloc (.cells #[.slice none 0 0] 24)) 38 (.slice ga mm ca)).alloc (.cells #[.int .i64 (k:Int)] 3);rw[wb,aL,aL,ke]at this;exact this
 have x3:Boxed W4 (P0+1+1+1) 3 (.int .i64 (k:Int)):=by have:=Boxed.new (((w.alloc (.cells #[.int .u64 (b:Int)] 47)).alloc (.cells #[.slice none 0 0] 24)).alloc (.cells #[.slice ga mm ca] 38)) 3 (.int .i64 (k:Int));rw[wb,aL,aL,aL,ke]at this;exact this
 have sz4:W4.heap.size=P0+1+1+1+1:=by rw[<-wb];simp[ke]
 obtain⟨q,hq⟩:∃q,q=(mm+k-1)/k:=⟨_,rfl⟩;have sL:mm<=k*q:=by have h1:=aS (mm+k-1) k;have h2:=aD (mm+k-1) (show k>0 by omega);rw[<-hq]at h1;omega
 have AA:k*q<mm+k:=by have h1:=cR (mm+k-1) k;rw[<-hq,aC]at h1;omega
 have ks:mm<=ca:=by have:=(ae HR).room;omega
 have GG:0<mm->ga=some ⟨ba,oa,none⟩:=fun h=>(ae HR).head (by omega);have SQ:=ag (Jz 8 (by omega) (P0+1+1) (P0+1+1+1) ba oa mm ca k q ga GG (by omega) (by omega) (by omega) ks sL AA W4 x2.lt x3.lt x2.cell x3.cell);have I0:Hid (VI w (P0+1+1+1+1) P0 b k mm ys ga ca 0 W4):=⟨x0,⟨_,x1,rfl,Or.inl ⟨rfl,rfl⟩⟩,x2,x3,Out.bQ b4⟩;have Fb:=x2.lt;have hx3:=x3.lt;have HSW:=b4.size;clear b4 x0 x1 x2 x3 hq
 gi_wp2
 refine KV (by omega) (gf:=63) (lb:=#[.pointer (some ⟨P0+1+1,0,none⟩),.pointer (some ⟨P0+1+1+1,0,none⟩)]) rfl (enters_of QM (by kernel_rfl) rfl)
  (ae SQ) (aj _ _) Ha (G9 Fb hx3) (fun _=>rfl)
  (VI w (P0+1+1+1+1) P0 b k mm ys ga ca) (VI.own (by omega)) (ae I0)
  (fun x=>{ tmps:=#[.pointer (some ⟨gz,0,none⟩),.int .u64 (b:Int),.slice ga la ca,undef,.pointer (some ⟨P0,0,none⟩),undef,.slice none 0 0,.int .i64 0,.int .i64 (k:Int),.int .u64 (p:Int),.pointer (some ⟨P0+1,0,none⟩),jq ba oa mm k x,undef,undef,undef,.int .u64 (b:Int),.bool false,.bool false,.slice ga la ca,.func (.func 45) #[] #[.pointer (some ⟨P0,0,none⟩)],.bool false,.bool false,.tuple #[.int .i64 (k:Int),.int .u64 (p:Int)],.int .u64 (b:Int),.tuple #[.int .i64 (k:Int),.int .u64 (p:Int)],.int .i64 (k:Int),.int .u64 (p:Int),.slice ga la ca,.slice ga mm ca,.int .i64 (k:Int),.func (.func 63) #[] #[.pointer (some ⟨P0+1+1,0,none⟩),.pointer (some ⟨P0+1+1+1,0,none⟩)],jq ba oa mm k x,undef,undef,undef,undef,undef,undef,undef,undef,undef,undef,undef,undef,undef,undef,undef,undef,undef],defers:=[] }) ?assign ?body ?done
 case assign=>
  intro lp x W5 K2 xt;revert xt;dsimp only;generalize jq ba oa mm k x=pv;intro xt
  gi_wp2
  exact xt
 case body=>
  rintro lp x W5 hlp acA hx Rq;obtain⟨y0,⟨v,y1,yw⟩,y2,y3,yo⟩:=Rq;obtain⟨t,ht⟩:∃t,t=k*x:=⟨_,rfl⟩;have htm:t<mm:=by have:=au k (show x+1<=q by omega);rw[cJ, <-ht]at this;omega
  obtain⟨E,t_⟩:∃E,E=min k (mm-t):=⟨_,rfl⟩;have Nj:jq ba oa mm k x=.slice (some ⟨ba,oa+t,none⟩) E E:=by unfold jq;rw[<-ht, <-t_]
  obtain⟨ds,Uh⟩:∃ds,ds=(ys.drop t).take k:=⟨_,rfl⟩;have wE:ds.length=E:=by rw[Uh,cF,gP,kt,t_]
  have B_:∀d,d ∈ ds->d<b:=fun d hd=>ae HYD d (fQ (lF (by rw[<-Uh];exact hd)));have hEk:E<=k:=by omega
  obtain⟨P5,hP5⟩:∃P5,W5.heap.size=P5:=⟨_,rfl⟩;have hba:ba<w.heap.size:=(ae HR).lt (by omega);have hyo:=yo.size;have hs5:P0+1+1+1+1<=P5:=by have h1:=(ah.1 acA.choose_spec).1;omega
  have hcl:∀j,j<E->W5.cell? ⟨ba,oa+t+j,none⟩=some (.int .u64 ((ds.getD j 0:Nat):Int)):=fun j hj=>by have h1:=yo.cell ((ae HR).cell (t+j) (by omega)) (by show ¬w.heap.size<=ba;omega);rw[<-dt]at h1;rw[h1,Uh,aq,aq,iO,aW (by omega),F6]
  obtain⟨W6,hW6⟩:∃W6,(W5.alloc (.cells #[.int .u64 0] 47)).alloc (.cells #[.slice (some ⟨ba,oa+t,none⟩) E E] 38)=W6:=⟨_,rfl⟩;have b6:Below W5.heap.size W5 W6:=by rw[<-hW6];exact((aj _ W5).alloc (af _) _).alloc (by simp) _
  have x5:Boxed W6 P5 47 (.int .u64 0):=by have:=(Boxed.new W5 47 (.int .u64 0)).alloc (.cells #[.slice (some ⟨ba,oa+t,none⟩) E E] 38);rw[hW6,hP5]at this;exact this
  have x6:Boxed W6 (P5+1) 38 (.slice (some ⟨ba,oa+t,none⟩) E E):=by have:=Boxed.new (W5.alloc (.cells #[.int .u64 0] 47)) 38 (.slice (some ⟨ba,oa+t,none⟩) E E);rw[hW6,aL,hP5]at this;exact this
  have sz6:W6.heap.size=P5+1+1:=by rw[<-hW6];simp[hP5]
  have aeg:∃r,W6.heap[lp]?=some (.loop r):=by obtain⟨r,hr⟩:=acA;exact⟨r,(b6.block lp (ah.1 hr).1).trans hr⟩
  have SB:=ag (Mu 6 (by omega) (P5+1) ba (oa+t) E E (by omega) ds wE W6 x6.lt x6.cell (fun j hj=>(b6.cell (p:=⟨ba,oa+t+j,none⟩) (by show ba<_;omega)).trans (hcl j hj)));have J0:Hid (VJ W5 P5 b ds (.slice (some ⟨ba,oa+t,none⟩) E E) 0 W6):=by refine⟨?_,x6,(Out.bQ b6).mono (fun j hj=>by omega)⟩;rw[lQ,aT (af _)];exact x5
  have hx6:=x6.lt;have CBW:=ag (fun W=>QT 6 (some ⟨ba,oa+t,none⟩) E E W);have HY:=ag (And.intro y0 (And.intro y1 (And.intro yw (And.intro y2 (And.intro y3 yo)))));have HDD:=ag B_;have HDS:=ag Uh;have HTT:=ag ht;clear b6 x5 x6 hcl y0 y1 yw y2 y3 yo Uh ht B_ t_ acA;dsimp only;rw[Nj];clear Nj
  gi_wp2
  refine⟨trivial,?_⟩;refine(CallsIn.inRound lp (ae CBW _)).mono ?_;rintro e W6' ⟨rfl,hw⟩;rw[hW6]at hw;obtain rfl:=hw.symm;clear hw CBW;rw[aL,hP5]
  gi_wp2
  refine KW aeg (by omega) (gf:=64) (lb:=#[.pointer (some ⟨P5+1,0,none⟩)]) rfl (enters_of Tryz.func64 (by kernel_rfl) rfl)
   (ae SB) (aj _ _) rI (AD hx6 (by omega)) (fun _=>rfl)
   (VJ W5 P5 b ds (.slice (some ⟨ba,oa+t,none⟩) E E)) (VJ.own (by omega)) (ae J0)
   (fun i=>{ tmps:=#[.pointer (some ⟨gz,0,none⟩),.int .u64 (b:Int),.slice ga la ca,undef,.pointer (some ⟨P0,0,none⟩),undef,.slice none 0 0,.int .i64 0,.int .i64 (k:Int),.int .u64 (p:Int),.pointer (some ⟨P0+1,0,none⟩),.slice (some ⟨ba,oa+t,none⟩) E E,.pointer (some ⟨P5,0,none⟩),undef,.int .u64 ((ds.getD (E-1-i) 0:Nat):Int),.int .u64 (b:Int),.bool false,.bool false,.slice ga la ca,.func (.func 45) #[] #[.pointer (some ⟨P0,0,none⟩)],.bool false,.bool false,.tuple #[.int .i64 (k:Int),.int .u64 (p:Int)],.int .u64 (b:Int),.tuple #[.int .i64 (k:Int),.int .u64 (p:Int)],.int .i64 (k:Int),.int .u64 (p:Int),.slice ga la ca,.slice ga mm ca,.int .i64 (k:Int),.func (.func 63) #[] #[.pointer (some ⟨P0+1+1,0,none⟩),.pointer (some ⟨P0+1+1+1,0,none⟩)],.slice (some ⟨ba,oa+t,none⟩) E E,.slice (some ⟨ba,oa+t,none⟩) E E,.func (.func 64) #[] #[.pointer (some ⟨P5+1,0,none⟩)],.int .i64 ((E-1-i:Nat):Int),.int .u64 ((ds.getD (E-1-i) 0:Nat):Int),undef,undef,undef,undef,undef,undef,undef,undef,undef,undef,undef,undef,undef],defers:=[] }) ?iassign ?ibody ?idone
  case iassign=>
   intro lp2 i W7 K2 xt;revert xt;dsimp only;generalize ds.getD (E-1-i) 0=d;intro xt
   gi_wp2
   exact xt
  case ibody=>
   rintro lp2 i W7 hi ⟨z1,z2,zo⟩;rw[wE]at z1;obtain⟨d,hd⟩:∃d,d=ds.getD (E-1-i) 0:=⟨_,rfl⟩;obtain⟨v0,Up⟩:∃v0,v0=vl b (ds.drop (E-i)):=⟨_,rfl⟩;obtain⟨v1,Mi⟩:∃v1,v1=vl b (ds.drop (E-(i+1))):=⟨_,rfl⟩;obtain⟨M,hM⟩:∃M,M=v0*b:=⟨_,rfl⟩;have hM1:v1=M+d:=by have:=Qp b ds (E-(i+1)) (by omega);rw[<-Mi,show E-(i+1)+1=E-i by omega, <-Up, <-hM,show E-(i+1)=E-1-i by omega, <-hd]at this;exact this
   have hv9:v1<18446744073709551616:=by have:=zV (ds.drop (E-(i+1))) (fun d hd=>ae HDD d (fQ hd));rw[<-Mi]at this;have h2:=aA (show 0<b by omega) (show(ds.drop (E-(i+1))).length<=k by rw[gP];omega);rw[<-ae HP]at h2;omega
   have e1:(v0:Int)*(b:Int)=(M:Int):=by rw[hM];simp
   have e2:IntKind.u64.wrap (M:Int)=(M:Int):=by rw[aK];omega
   have e3:(M:Int)+(d:Int)=(v1:Int):=(by omega);have e4:IntKind.u64.wrap (v1:Int)=(v1:Int):=by rw[aK];omega
   rw[<-Up]at z1;have c1:=z1.cell;have f1:=z1.frozen;have c0:W7.cell? ⟨P0,0,none⟩=some (.int .u64 (b:Int)):=zo.cell (ae HY).1.cell (by show ¬P5<=P0;omega);have Ua:Hid (KeepsFrom W6.heap.size W7 (W7.setCell ⟨P5,0,none⟩ (.int .u64 (v1:Int)))/\mV (P5+1) ba (oa+t) E W7 (W7.setCell ⟨P5,0,none⟩ (.int .u64 (v1:Int)))/\VJ W5 P5 b ds (.slice (some ⟨ba,oa+t,none⟩) E E) (i+1) (W7.setCell ⟨P5,0,none⟩ (.int .u64 (v1:Int)))):=by refine⟨⟨by simp,fun j ob hk hj _=>(bo _ _ _ _ (by show j≠P5;omega)).trans hj⟩,⟨cZ (a:=⟨P5+1,0,none⟩) (bo _ _ _ _ (by show P5+1≠P5;omega)),fun j _=>cZ (a:=⟨ba,oa+t+j,none⟩) (bo _ _ _ _ (by show ba≠P5;omega))⟩,?_,(bo _ _ _ _ (by show P5+1≠P5;omega)).trans z2,zo.set (af _) _⟩;rw[wE, <-Mi];exact z1.set _
   clear Up Mi hM hM1 z1 z2 zo HDD;dsimp only;rw[<-hd];clear hd
   gi_wp2
   exact ae Ua
  case idone=>
   rintro W7 ⟨z1,z2,zo⟩;rw[wE,gW,dN]at z1;obtain⟨y0,y1,yw,y2,y3,yo⟩:=ae HY;obtain⟨d,hd⟩:∃d,d=vl b ds:=⟨_,rfl⟩;rw[<-hd]at z1;have keep:∀j,j<P5->W7.heap[j]?=W5.heap[j]?:=fun j hj=>zo.block j (by omega) (by omega);have z11:Boxed W7 (P0+1) 24 v:=(keep _ (by omega)).trans y1;have zw:pZ W7 (P0+1+1+1+1) v x (JA b k ys x):=yw.out zo (fun j _ hj=>by omega);have c5:=z1.cell;have cv:=z11.cell;have Np:=zo.size;have hx9:x<=1000000:=by have:=jX q (show 0<k by omega);omega
   obtain⟨i0,hi,jx,gY,fX⟩:=fE Tryz.mf;obtain⟨v',IQ,ir,c1,f1,g1,g2,g3,g4,va,LJ,vc,Wz⟩:=OQ (u:=.int .u64 (d:Int)) bm hi jx gY fX rfl (by omega) (by decide) z11 zw.owns hx9 rfl (by omega);have g5:=OP zw hx9 (by omega) ir;subst Wz;have Ua:Hid (KeepsFrom W4.heap.size W5 (IQ.setCell ⟨P0+1,0,none⟩ (.slice va LJ vc))/\pn (P0+1+1) (P0+1+1+1) W5 (IQ.setCell ⟨P0+1,0,none⟩ (.slice va LJ vc))/\VI w (P0+1+1+1+1) P0 b k mm ys ga ca (x+1) (IQ.setCell ⟨P0+1,0,none⟩ (.slice va LJ vc))):=by have q0:Boxed (IQ.setCell ⟨P0+1,0,none⟩ (.slice va LJ vc)) P0 47 (.int .u64 (b:Int)):=g3 _ _ ((keep _ (by omega)).trans y0) (Or.inl (by omega)) (by omega);have q2:Boxed (IQ.setCell ⟨P0+1,0,none⟩ (.slice va LJ vc)) (P0+1+1) 38 (.slice ga mm ca):=g3 _ _ ((keep _ (by omega)).trans y2) (Or.inl (by omega)) (by omega);have q3:Boxed (IQ.setCell ⟨P0+1,0,none⟩ (.slice va LJ vc)) (P0+1+1+1) 3 (.int .i64 (k:Int)):=g3 _ _ ((keep _ (by omega)).trans y3) (Or.inl (by omega)) (by omega);refine⟨⟨ak Np g4.size,fun j ob hk hj Um=>g3 j ob ((keep j (by have:=(ah.1 hj).1;omega)).trans hj) (Or.inr (fun cur e=>by rw[e]at Um;cases Um)) (fun e=>by omega)⟩,⟨q2.cell.trans y2.cell.symm,q3.cell.trans y3.cell.symm⟩,q0,⟨_,g1,?_⟩,q2,q3,yo.trans ((zo.mono (fun j hj=>by omega)).trans (g4.mono (fun j hj=>by omega)))⟩;rw[Vj, <-ae HTT, <-ae HDS, <-hd];exact g5.set (by omega) _
   clear hd keep z1 z2 z11 zw zo y0 y1 yw y2 y3 yo g1 g2 g3 g4 g5 hi jx gY fX HDD
   gi_wp2_with (gi_at_builtin;refine vw _ rfl (.tmp 41) (.tmp 43) 24 rfl rfl rfl ir ?_)
   exact ae Ua
 case done=>
  rintro D W5 hD ⟨y0,⟨v,y1,yw⟩,y2,y3,yo⟩ MT;have hyo:=yo.size;have b5:Below w.heap.size w W5:=yo.below (af _) (fun k h=>h);have hq9:q<=7000:=by have:=jX q (show 0<k by omega);omega
  have tG:∃Uc gb cap post,v=.slice Uc q cap/\w.heap.size<=gb/\cW W5 gb (JA b k ys q++post)/\(0<q->Uc=some ⟨gb,0,none⟩)/\q<=cap/\cap<=9223372036854775807:=by
   obtain⟨qk,h⟩:=yw;rcases h with⟨e1,e2⟩|⟨gr2,zs,jA,e1,sK,Ae⟩
   ·refine⟨none,P0,0,[b],by rw[e1,e2],by omega,?_,fun h=>by omega,by omega,by omega⟩;rw[eu (by rw[qk,e2]:(JA b k ys q).length=0),nG];exact y0
   ·refine⟨_,gr2,_,zs,e1,by omega,sK,fun _=>rfl,by rw[bU,qk];omega,by unfold maxLen at Ae;omega⟩
  obtain⟨Uc,gb,cap,post,rfl,yQ,kW,ad7,hqc,adZ⟩:=tG;have CJ:=ag (TV w W5 gz gw gv gr gd gm gt gk ge g gb q cap 0 s l m s m T (JA b k ys q) post p (ae HE) (ae HT) h1 h2 (by omega) ((ae HE).next b5) h0 (by omega) (by omega) (Out.bQ b5) yQ kW (Z3 b k ys q) (fun d hd=>by rw[ae HP];exact ab2 (by omega) k q ys (ae HYD) d hd) (by omega) hqc adZ Uc ad7 (by omega) p9);have Mk:vl p (JA b k ys q)=vl b xs:=by rw[ae HP,YJ b k q ys (by omega),hyv]
  rw[Mk]at CJ;have hDl:=(ah.1 MT).1;have aeq:∀j,j<w.heap.size->W5.heap[j]?=w.heap[j]?:=fun j hj=>yo.block j hj (by omega);have HX:Hid (∀w' u,aU W5.heap.size w' u (vl b xs)->(∃s2 m2,fc w' gz gw gv gr gd gm gt gk ge g s2 l m2 T/\(0<=s2/\s2<=s+1200000000000000)/\Out (·=g) w w'/\Es W5 w')->Marks w.heap.size w' w'.heap.size [{ target:=.collected D,args:=#[] }]/\∀W',Kc w' W'->Out (fun j=>w.heap.size<=j) w' W'->∃s' m',aU w.heap.size W' u (vl b xs)/\fc W' gz gw gv gr gd gm gt gk ge g s' l m' T/\(0<=s'/\s'<=s+72057594037927936)/\Out (·=g) w W'/\Es w W'):=fun w' u nu ⟨s2,m2,E2,k2,o2,n2⟩=>by refine⟨⟨D,rfl,by omega,by have:=n2.1;omega,n2.2 D _ MT rfl,trivial⟩,fun W' kc o=>?_⟩;refine⟨s2,m2,(kc.mb nu).mono hyo,(ae HE).vV E2 o,⟨k2.1,by omega⟩,o2.fresh o (fun i hi=>Or.inr hi),by have:=n2.1;have:=o.size;omega,fun j ob hj hc=>?_⟩;have xz:=(ah.1 hj).1;exact(o.block j (by have:=n2.1;omega) (by omega)).trans (n2.2 j ob ((aeq j xz).trans hj) hc)
  have cv:=y1.cell;clear y0 y1 y2 y3 yw yo b5 kW ad7 MT I0 SQ Mk hyv aeq
  gi_wp2
  refine⟨trivial,?_⟩;refine(du.2 (ae CJ)).mono ?_;rintro e w6 ⟨xa,xl,xc,rfl,nu,hZ⟩;obtain⟨hM,x_⟩:=ae HX w6 _ nu hZ;have hM:=ag hM;have x_:=ag x_;clear nu hZ CJ HX
  gi_wp2
  refine kN (ae hM) (fun W' kc o=>?_);refine⟨_,gG rfl _ _ _,?_⟩;obtain⟨s',m',q1,q2,q3,q4⟩:=ae x_ W' kc o;exact⟨_,s',m',rfl,q1,q2,q3,q4⟩
theorem Da:yG:=by intro w gz gw gv gr gd gm gt gk ge g s l m T ga ba oa ca la b xs hE hT h0 h1 h2 h3 hl fA hR hb Wb hx;refine(FJ w gz gw gv gr gd gm gt gk ge g s l m T ga ba oa ca la b xs hE hT h0 h1 h2 h3 hl (by omega) hR hb Wb hx).mono ?_;rintro e w' ⟨q,s',m',rfl,q1,q2,q3,q4,_⟩;exact⟨q,s',m',rfl,q1,q2,q3,q4⟩
theorem X'(n:Nat)(hn:n<=1000000):∀w,(Instr.makeSlice 24 (.int .i64 0) (.int .i64 (n:Int))).run Tryz.prog w=.ok (.slice (some ⟨w.heap.size,0,none⟩) 0 n) (w.alloc (.cells (dS n).toArray 47)):=fun w=>by
 obtain⟨i0,hi,jx,gY,fX⟩:=fE Tryz.mf;have h:=Fv (P:=Tryz.prog) w 24 47 i0 (.int .u64 0) bm hi jx .i64 .i64 0 (n:Int) (by omega) (by omega) (by rw[fX];omega) (by omega);rw[h];have e1:((n:Int)).toNat=n:=by omega
 rw[e1,gY,dG,rJ];rfl
def PvK(w:World)(gz gw gv gr gd gm gt gk ge g:Nat)(s l:Int)(T:bJ)(ds:List Nat)(b:Nat)(er:Int)(q:Value)(w':World):Prop:=
 ((er=0/\(∀d,d ∈ ds->d<b)/\aU w.heap.size w' q (vl b ds))\/(er=1/\∃d,d ∈ ds/\b<=d))/\∃s' m',fc w' gz gw gv gr gd gm gt gk ge g s' l m' T/\(0<=s'/\s'<=s+72057594037927936)/\Out (·=g) w w'
theorem Oz(w W:World)(gz gw gv gr gd gm gt gk ge g:Nat)(s l m:Int)(T:bJ)(ga:Option Addr)(ba oa ca la b:Nat)(xs:List Nat)(hE:fc w gz gw gv gr gd gm gt gk ge g s l m T)(hT:TB w)(h0:0<=s)(h1:s<=288230376151711744)(h2:0<=l)(h3:l<=800)(bW:Below w.heap.size w W)(hl:xs.length=la)(fA:la<=6000)(hR:cH W ga ba oa ca xs)(hb:2<=b)(Wb:b<18446744073709551616):Calls Tryz.prog 25 #[.pointer (some ⟨gz,0,none⟩),.int .u64 (b:Int),.slice ga la ca] W fun e w'=>∃q er,e=.returned (.tuple #[q,.int .i64 er])/\PvK w gz gw gv gr gd gm gt gk ge g s l T xs b er q w'/\Es W w':=by
 by_cases hx:∀d,d ∈ xs->d<b
 ·refine(FJ W gz gw gv gr gd gm gt gk ge g s l m T ga ba oa ca la b xs (hE.next bW) (hT.next bW) h0 h1 h2 h3 hl fA hR hb Wb hx).mono ?_;rintro e w' ⟨q,s',m',rfl,q1,q2,q3,q4,q5⟩;exact⟨q,0,rfl,⟨Or.inl ⟨rfl,hx,q1.mono bW.size⟩,s',m',q2,q3,(Out.bQ bW).fresh q4 (fun i hi=>Or.inl hi)⟩,q5⟩
 ·have RJ:∃d,d ∈ xs/\b<=d:=ey fun h=>hx fun d hd=>eI fun hbd=>h ⟨d,hd,hbd⟩;refine(xY W gz ga ba oa ca la b xs hl fA hR Wb (Or.inr RJ)).mono ?_;rintro e w' ⟨qa,qc,rfl,bx⟩;have b2:Below w.heap.size w w':=bW.trans (bx.mono bW.size);exact⟨_,1,rfl,⟨Or.inr ⟨rfl,RJ⟩,s,m,hE.next b2,⟨h0,by omega⟩,Out.bQ b2⟩,Es.next ⟨af _,fun _ _ h _=>h⟩ bx⟩
def PI(w:World)(PB PS P2:Nat)(ds:List Nat)(bv:Value)(row:Array Value)(tag:Nat×Nat)(r:Nat)(W:World):Prop:=
 (∃v,Boxed W PB 24 v/\pZ W w.heap.size v r (ds.take r))/\Boxed W PS 61 bv/\W.heap[P2]?=some (.cells row 5 tag)/\Out (fun j=>w.heap.size<=j) w W
theorem PI.own{PB PS P2:Nat}{bv:Value}{row:Array Value}{tag:Nat×Nat}(hb:w.heap.size<=base):OwnFrom base (PI w PB PS P2 ds bv row tag):=fun r A B row hs hg hr=>by obtain⟨⟨v,h1,h2⟩,h3,h5,h4⟩:=hs;have kc:=tK hg hr;exact⟨⟨v,kc.boxed h1,h2.kc kc⟩,kc.boxed h3,(kc _ _ h5 rfl).trans h5,h4.trans (uE hb hg hr)⟩
theorem pZ.Tb{PB:Nat}{u0:Value}(h:pZ W base v n xs)(hB:Boxed W PB 24 u0)(u:Value):pZ (W.setCell ⟨PB,0,none⟩ u) base v n xs:=by
 obtain⟨hl,h⟩:=h;refine⟨hl,?_⟩;rcases h with h|⟨g,ys,hb,e,hk,hm⟩
 ·exact Or.inl h
 ·refine Or.inr ⟨g,ys,hb,e,(bo _ _ _ _ (fun e1=>?_)).trans hk,hm⟩;have e1:g=PB:=e1;subst e1;have:=(show W.heap[g]?=_ from hB).symm.trans hk;injection this with h1
  injection h1 with h2 h3
  revert h3;decide
theorem j'(bs:List UInt8)(n x:Nat)(hn:bs.length=n)(hx:x<n):(oL bs).getD x 0=JT (bs.getD (n-1-x) 0).toNat:=by unfold oL;rw[aq,aq,adq (by simpa [hn]using hx),List.getElem?_map,nF,hn,bj (by omega)];rfl
theorem Fp(w:World)(gz gw gv gr gd gm gt gk ge g:Nat)(s l m:Int)(T:bJ)(bs:List UInt8)(n b:Nat)(hE:fc w gz gw gv gr gd gm gt gk ge g s l m T)(hT:TB w)(h0:0<=s)(h1:s<=288230376151711744)(h2:0<=l)(h3:l<=800)(hb:2<=b)(Wa:b<=36)(hn:bs.length=n)(Uk:0<n)(DS:n<=6000):Calls Tryz.prog 17 #[.pointer (some ⟨gz,0,none⟩),.string ⟨⟨bs⟩⟩,.int .i64 (b:Int)] w fun e w'=>∃q er,e=.returned (.tuple #[if er=0 then q else .slice none 0 0,.int .i64 (if er=0 then 0 else 11)])/\PvK w gz gw gv gr gd gm gt gk ge g s l T (oL bs) b er q w':=by
 have CI:=ag (oN w (b:Int));rw[bg (by omega)]at CI;have Zp:=ag (fun(ga:Option Addr) cap w=>QS 7 ga n cap w);have qG:=X' n (by omega);have kF:(⟨⟨bs⟩⟩:ByteArray).size=n:=hn;have bw:IntKind.u64.wrap (b:Int)=(b:Int):=by rw[aK];omega
 have hn3:((n:Int)==0)=false:=dn.2 (by omega);have hn4:decide ((65536:Int)<(n:Int))=false:=aM (by omega);obtain⟨P0,ke⟩:∃P0,w.heap.size=P0:=⟨_,rfl⟩;obtain⟨V,hV⟩:∃V,((w.alloc (.cells (dS n).toArray 47)).alloc (.cells #[.slice (some ⟨w.heap.size,0,none⟩) 0 n] 24))=V:=⟨_,rfl⟩;have sV:V.heap.size=P0+1+1:=by rw[<-hV];simp[ke]
 have Nc:=run_bytes_of_string (P:=Tryz.prog) V 9 61 5 ⟨⟨bs⟩⟩ rfl jZ rfl;rw[kF,sV]at Nc;generalize grownCap V n 0 5=cp at Nc;obtain⟨row,tG⟩:∃row,row=bytesRow ⟨⟨bs⟩⟩ cp:=⟨_,rfl⟩;obtain⟨tag,ael⟩:∃tag,tag=(row.size,row.size+1):=⟨_,rfl⟩;rw[<-tG, <-ael]at Nc;obtain⟨W3,Uf⟩:∃W3,V.drew.alloc (.cells row 5 tag)=W3:=⟨_,rfl⟩;rw[Uf]at Nc;have Wd:∀j,j<n->row[j]?=some (.int .u8 (((bs.getD j 0).toNat:Nat):Int)):=fun j hj=>by have:=bytesRow_at ⟨⟨bs⟩⟩ cp j (by show j<bs.length;omega);rw[tG,this];simp[List.getD_eq_getElem?_getD,List.getElem?_eq_getElem (show j<bs.length by omega)]
 obtain⟨P2,Aa⟩:∃P2,P2=P0+1+1:=⟨_,rfl⟩;rw[<-Aa]at Nc sV;have afI:P0+1<P2:=by omega
 obtain⟨W4,wb⟩:∃W4,W3.alloc (.cells #[.slice (some ⟨P2,0,none⟩) n cp] 61)=W4:=⟨_,rfl⟩;have s3:W3.heap.size=P2+1:=by rw[<-Uf,aL];show V.heap.size+1=_;rw[sV]
 have s4:W4.heap.size=P2+1+1:=by rw[<-wb,aL,s3]
 have bV:Below w.heap.size w V:=by rw[<-hV];exact((aj _ w).alloc (af _) _).alloc (by simp) _
 have bV4:Below V.heap.size V W4:=by rw[<-wb, <-Uf];exact(((aj _ V).drew).alloc (af _) _).alloc (by simp) _
 have b4:Below w.heap.size w W4:=bV.trans (bV4.mono bV.size);have x1:Boxed W4 (P0+1) 24 (.slice (some ⟨P0,0,none⟩) 0 n):=by have h:=Boxed.new (w.alloc (.cells (dS n).toArray 47)) 24 (.slice (some ⟨w.heap.size,0,none⟩) 0 n);rw[hV,aL,ke]at h;exact(bV4.block _ (by omega)).trans h
 have k0:cW W4 P0 (List.replicate n 0):=by have h:=(qx w n).next ((aj _ _).alloc (af _) (.cells #[.slice (some ⟨w.heap.size,0,none⟩) 0 n] 24));rw[hV,ke]at h;exact h.next bV4
 have ow:pZ W4 w.heap.size (.slice (some ⟨P0,0,none⟩) 0 n) 0 []:=⟨rfl,Or.inr ⟨P0,List.replicate n 0,by omega,by simp,by simpa using k0,by simp;unfold maxLen;omega⟩⟩;have x2:W4.heap[P2]?=some (.cells row 5 tag):=by have h:=aI V.drew (.cells row 5 tag);rw[show V.drew.heap.size=P2 from sV,Uf]at h;rw[<-wb];exact(FY _ _ _ (by rw[s3];omega)).trans h
 have xS:Boxed W4 (P2+1) 61 (.slice (some ⟨P2,0,none⟩) n cp):=by have h:=Boxed.new W3 61 (.slice (some ⟨P2,0,none⟩) n cp);rw[wb,s3]at h;exact h
 have SQ:=ag (Mt 7 (by omega) (P2+1) P2 0 n cp (by omega) bs hn W4 xS.lt xS.cell (fun j hj=>by have h:=ay W4 P2 (0+j) row 5 tag x2;rw[bh]at h ⊢;exact h.trans (Wd j hj)));have r_:=xS.lt;have I0:Hid (PI w (P0+1) (P2+1) P2 (oL bs) (.slice (some ⟨P2,0,none⟩) n cp) row tag 0 W4):=⟨⟨_,x1,by rw[AU];exact ow⟩,xS,x2,Out.bQ b4⟩;have wE:(oL bs).length=n:=by rw[VC];exact hn
 have HE:=ag hE;have HT:=ag hT;have HN:=ag hn;clear hE hT hn b4 bV bV4 x1 k0 ow x2 xS Wd tG ael Aa;refine(du (n:=8)).1 ?_;refine callsIn_of_wp_marks Tryz.func17 rfl trivial ?_ rfl;simp only[Tryz.ntmps17,List.size_toArray,List.length_cons,List.length_nil,Nat.reduceAdd,Nat.reduceSub,Array.replicate_succ,Array.replicate_zero,List.push_toArray,List.append_toArray,List.nil_append,List.cons_append]
 gi_wp2
 refine⟨trivial,?_⟩;refine(du.2 (ae CI)).mono ?_;rintro e w2 ⟨rfl,hw⟩;obtain rfl:=hw.symm;clear hw CI
 gi_wp2
 rw[ke]at hV;rw[hV,Nc];clear Nc qG hV
 gi_wp2
 refine⟨trivial,?_⟩;refine(ae Zp _ _ _).mono ?_;rintro e W4' ⟨rfl,hw⟩;rw[wb]at hw;obtain rfl:=hw.symm;clear hw Zp;rw[s3]
 gi_wp2
 refine wh (by omega) (gf:=52) (lb:=#[.pointer (some ⟨P2+1,0,none⟩)]) rfl (enters_of Tryz.func52 (by kernel_rfl) rfl)
  (ae SQ) (aj _ _) rI (AD r_ (by omega)) (fun _=>rfl)
  (PI w (P0+1) (P2+1) P2 (oL bs) (.slice (some ⟨P2,0,none⟩) n cp) row tag) (PI.own (by omega)) (ae I0)
  (fun x=>{ tmps:=#[.pointer (some ⟨gz,0,none⟩),.string ⟨⟨bs⟩⟩,.int .i64 (b:Int),undef,undef,undef,.slice none 0 0,.int .i64 0,.pointer (some ⟨P0+1,0,none⟩),undef,.int .u8 (((bs.getD (n-1-x) 0).toNat:Nat):Int),undef,undef,.bool false,.int .i64 (b:Int),.bool true,.bool false,.bool false,.string ⟨⟨bs⟩⟩,.int .i64 (n:Int),.bool false,.bool false,.string ⟨⟨bs⟩⟩,.int .i64 (n:Int),.bool false,.bool false,.string ⟨⟨bs⟩⟩,.int .i64 (n:Int),.slice (some ⟨P0,0,none⟩) 0 n,.string ⟨⟨bs⟩⟩,.slice (some ⟨P2,0,none⟩) n cp,.func (.func 52) #[] #[.pointer (some ⟨P2+1,0,none⟩)],.int .i64 ((n-1-x:Nat):Int),.int .u8 (((bs.getD (n-1-x) 0).toNat:Nat):Int),undef,undef,undef,undef,undef,undef,undef,undef,undef,undef,undef,undef,undef,undef,undef,undef],defers:=[] }) ?assign ?body ?done
 case assign=>
  intro lp x W5 K2 xt;revert xt;dsimp only;generalize (bs.getD (n-1-x) 0).toNat=d;intro xt
  gi_wp2
  exact xt
 case body=>
  rintro lp x W5 hx Rq;obtain⟨⟨v,hv,ho⟩,w_,Ax,hO⟩:=Rq;have hO5:=hO.size;obtain⟨d,hd⟩:∃d,d=(bs.getD (n-1-x) 0).toNat:=⟨_,rfl⟩;have ad3:d<256:=by rw[hd];exact UInt8.toNat_lt _
  have B_:(oL bs).getD x 0=JT d:=by rw[j' bs n x (ae HN) hx, <-hd]
  dsimp only;rw[<-hd];have cv:=hv.cell;obtain⟨i0,hi,jx,gY,fX⟩:=fE Tryz.mf;obtain⟨v',IQ,ir,c1,f1,y1,y2,y3,y4,⟨va,LJ,vc,Wz⟩,y5⟩:=Jq (u:=.int .u64 (JT d:Int)) bm hi jx gY fX rfl (by omega) (by decide) (show Boxed W5.drew (P0+1) 24 v from hv) (show W5.drew.ownsRow w.heap.size 47 1 v x _ from ho.owns) (by omega) rfl (ak hO5 (af _));have y6:=OP (show pZ W5.drew w.heap.size v x _ from ho) (by omega) (ak hO5 (af _)) ir;subst Wz;have hHF:Hid (KeepsFrom W4.heap.size W5 (IQ.setCell ⟨P0+1,0,none⟩ (.slice va LJ vc))/\mV (P2+1) P2 0 n W5 (IQ.setCell ⟨P0+1,0,none⟩ (.slice va LJ vc))/\PI w (P0+1) (P2+1) P2 (oL bs) (.slice (some ⟨P2,0,none⟩) n cp) row tag (x+1) (IQ.setCell ⟨P0+1,0,none⟩ (.slice va LJ vc))):=by have q2:(IQ.setCell ⟨P0+1,0,none⟩ (.slice va LJ vc)).heap[P2]?=some (.cells row 5 tag):=y3 _ _ Ax (Or.inr (fun cur e=>by injection e with e1 e2;revert e2;decide)) (by omega);have q6:Boxed (IQ.setCell ⟨P0+1,0,none⟩ (.slice va LJ vc)) (P2+1) 61 (.slice (some ⟨P2,0,none⟩) n cp):=y3 _ _ w_ (Or.inr (fun cur e=>by injection e with e1 e2;revert e2;decide)) (by omega);refine⟨⟨y4.size,fun j ob hk hj Um=>y3 j ob hj (Or.inr (fun cur e=>by rw[e]at Um;cases Um)) (fun e=>by omega)⟩,⟨q6.cell.trans w_.cell.symm,fun j hj=>cZ (a:=⟨P2,0+j,none⟩) (q2.trans Ax.symm)⟩,⟨_,y1,?_⟩,q6,q2,hO.trans ((Cb y4).mono (fun j e=>by omega))⟩;have hl:x<(oL bs).length:=(by omega);rw[gg hl];rw[aq,bj hl,df]at B_;rw[B_];exact y6.Tb y5 _
  have CD:=ag (JP W5.drew d ad3);clear hd B_ y1 y2 y3 y4 y5 y6 ho w_ Ax hO hi jx gY fX
  gi_wp2
  refine rR 5 (fun w'=>w'.cell? ⟨P0+1,0,none⟩=some v) (by kernel_rfl) (by kernel_rfl) (fun⟨_,_,h⟩=>h) (by kernel_rfl) (by rfl) (by kernel_rfl) (by kernel_rfl) cv (fun hHeld=>?_);simp only[List.take_succ_cons,List.take_zero,List.drop_succ_cons,List.drop_zero];refine kH 0 (by assumption) ?_;simp only[Act.put,List.setIfInBounds_toArray,List.set_cons_zero,List.set_cons_succ];refine kH 1 (by assumption) ?_;simp only[Act.put,List.setIfInBounds_toArray,List.set_cons_zero,List.set_cons_succ];refine wpAnyH_ready (rs:=[2]) (by kernel_rfl) (by simp) ?_;refine AllReadyH.cons (o:=_) rfl (fun Kx hK=>?_) AllReadyH.nil;go_simp;refine(ae CD).mono ?_;rintro e w6 ⟨rfl,hw⟩;obtain rfl:=hw.symm;clear hw
  go_wp2_with fail
  refine hK.out _ _ cv (fun hHeld=>?_);clear hK Kx
  (try simp only[Act.put,List.setIfInBounds_toArray,List.set_cons_zero,List.set_cons_succ])
  generalize JT d=z at *;refine wpAnyH_ready (rs:=[3]) (by kernel_rfl) (by simp) ?_;refine AllReadyH.cons (o:=_) rfl (fun Kx hK=>?_) AllReadyH.nil;go_simp;refine hK.out _ _ (fF cv _) (fun hHeld=>?_);clear hK Kx
  (try simp only[Act.put,List.setIfInBounds_toArray,List.set_cons_zero,List.set_cons_succ])
  refine wpAnyH_ready (rs:=[4]) (by kernel_rfl) (by simp) ?_;refine AllReadyH.cons (o:=_) rfl (fun Kx hK=>?_) AllReadyH.nil;refine fH rfl (.tmp 34) (.tmp 37) 24 rfl rfl rfl ir ?_;refine hK.out _ _ c1 (fun hHeld=>?_);clear hK Kx
  (try simp only[Act.put,List.setIfInBounds_toArray,List.set_cons_zero,List.set_cons_succ])
  refine wpAnyH_done (by kernel_rfl) ?_ _;show wpList _ _ _ _ _ _;clear hHeld ir;go_wp2;exact ae hHF
 case done=>
  rintro D W5 hD Rq MT;dsimp only;obtain⟨⟨v,hv,ho⟩,_,_,hO⟩:=Rq;rw[<-wE,cf]at ho;rw[wE]at ho;have hO5:=hO.size;have b5:Below w.heap.size w W5:=hO.below (af _) (fun k h=>h);obtain⟨g2,c2,rfl,adW⟩:∃g2 c2,v=.slice (some ⟨g2,0,none⟩) n c2/\cH W5 (some ⟨g2,0,none⟩) g2 0 c2 (oL bs):=by
   obtain⟨qk,h⟩:=ho;rcases h with⟨_,e2⟩|⟨gr2,zs,jA,e1,sK,Ae⟩
   ·omega
   ·refine⟨gr2,_,e1,fun _=>rfl,by rw[bU];omega,fun j hj=>?_⟩;rw[bh,sK.cell j (by rw[bU];omega),aq,gK hj, <-aq]
  have CV:=ag (Oz w W5 gz gw gv gr gd gm gt gk ge g s l m T (some ⟨g2,0,none⟩) g2 0 c2 n b (oL bs) (ae HE) (ae HT) h0 h1 h2 h3 b5 wE DS adW hb (by omega));have hDl:=(ah.1 MT).1;have HX:Hid (∀w' er q,PvK w gz gw gv gr gd gm gt gk ge g s l T (oL bs) b er q w'->Es W5 w'->Marks w.heap.size w' w'.heap.size [{ target:=.collected D,args:=#[] }]/\(er=0\/er=1)/\∀W',Kc w' W'->Out (fun j=>w.heap.size<=j) w' W'->PvK w gz gw gv gr gd gm gt gk ge g s l T (oL bs) b er q W'):=fun w' er q ⟨k1,s2,m2,E2,k2,o2⟩ n2=>by
   refine⟨⟨D,rfl,by omega,by have:=n2.1;omega,n2.2 D _ MT rfl,trivial⟩,?_,fun W' kc o=>⟨?_,s2,m2,(ae HE).vV E2 o,k2,o2.fresh o (fun i hi=>Or.inr hi)⟩⟩
   ·rcases k1 with h|h
    ·exact Or.inl h.1
    ·exact Or.inr h.1
   ·rcases k1 with⟨r1,r2,r3⟩|h
    ·exact Or.inl ⟨r1,r2,kc.mb r3⟩
    ·exact Or.inr h
  have cv:=hv.cell;clear hv ho hO b5 adW MT I0 SQ
  gi_wp2
  refine⟨trivial,?_⟩;refine(du.2 (ae CV)).mono ?_;rintro e w6 ⟨q,er,rfl,hP,hN6⟩;obtain⟨hM,he,x_⟩:=ae HX w6 er q hP hN6;have hM:=ag hM;have x_:=ag x_;clear hP hN6 CV HX;rcases he with rfl|rfl
  ·gi_wp2
   refine kN (ae hM) (fun W' kc o=>?_);refine⟨_,gG rfl _ _ _,?_⟩;exact⟨q,0,rfl,ae x_ W' kc o⟩
  ·gi_wp2
   refine kN (ae hM) (fun W' kc o=>?_);refine⟨_,gG rfl _ _ _,?_⟩;exact⟨q,1,rfl,ae x_ W' kc o⟩
theorem mH:kJ:=by
 intro w gz gw gv gr gd gm gt gk ge g s l m T bs n b hE hT h0 h1 h2 h3 hb Wa hne DS Nj _;refine(Fp w gz gw gv gr gd gm gt gk ge g s l m T bs bs.length b hE hT h0 h1 h2 h3 hb Wa rfl (DH.2 hne) DS).mono ?_;rintro e w' ⟨q,er,rfl,k,s',m',q2,q3,q4⟩;rcases PT Wa bs with⟨a1,a2⟩|⟨⟨d,hd,hbd⟩,a2⟩
 ·rcases k with⟨rfl,_,k3⟩|⟨_,d,hd,hbd⟩
  ·rw[a2]at Nj;obtain rfl:=aZ Nj;exact⟨q,s',m',rfl,k3,q2,q3,q4⟩
  ·have:=a1 d hd;omega
 ·rw[a2]at Nj;cases Nj
theorem NM(w:World)(gz:Nat)(bs:List UInt8)(z:Int)(hz:z<2\/36<z):Calls Tryz.prog 17 #[.pointer (some ⟨gz,0,none⟩),.string ⟨⟨bs⟩⟩,.int .i64 z] w fun e w'=>e=.returned (.tuple #[.slice none 0 0,.int .i64 1])/\w'=w:=by
 have CI:=ag (oN w z);rw[aM (by omega)]at CI;clear hz;go_enter Tryz.func17,Tryz.ntmps17
 go_wp2_with fail
 refine(ae CI).mono ?_;rintro e w2 ⟨rfl,hw⟩;obtain rfl:=hw.symm;clear hw CI;go_wp2
 go_ret2
 exact⟨rfl,rfl⟩
theorem KG(w:World)(gz:Nat)(z:Int)(hz:2<=z/\z<=36):Calls Tryz.prog 17 #[.pointer (some ⟨gz,0,none⟩),.string ⟨⟨[]⟩⟩,.int .i64 z] w fun e w'=>e=.returned (.tuple #[.slice none 0 0,.int .i64 11])/\w'=w:=by
 have CI:=ag (oN w z);rw[bg hz]at CI;have kF:(⟨⟨[]⟩⟩:ByteArray).size=0:=rfl;clear hz;go_enter Tryz.func17,Tryz.ntmps17
 go_wp2_with fail
 refine(ae CI).mono ?_;rintro e w2 ⟨rfl,hw⟩;obtain rfl:=hw.symm;clear hw CI;go_wp2
 go_ret2
 exact⟨rfl,rfl⟩
theorem Ef:zt:=by
 intro w gz gw gv gr gd gm gt gk ge g s l m T bs z x hE hT h0 h1 h2 h3 DS z0 z1 h;rcases h with⟨hz,rfl⟩|⟨fX,afx,hbs,rfl⟩
 ·refine(NM w gz bs z hz).mono ?_;rintro e w' ⟨rfl,hw⟩;obtain rfl:=hw.symm;exact⟨none,0,s,m,rfl,hE,⟨h0,by omega⟩,Out.refl _ _⟩
 ·by_cases hne:bs=[]
  ·subst hne;refine(KG w gz z ⟨fX,afx⟩).mono ?_;rintro e w' ⟨rfl,hw⟩;obtain rfl:=hw.symm;exact⟨none,0,s,m,rfl,hE,⟨h0,by omega⟩,Out.refl _ _⟩
  ·have Nj:=hbs.resolve_left hne;obtain⟨b,rfl⟩:∃b:Nat,z=(b:Int):=⟨z.toNat,by omega⟩;rw[dV]at Nj;refine(Fp w gz gw gv gr gd gm gt gk ge g s l m T bs bs.length b hE hT h0 h1 h2 h3 (by omega) (by omega) rfl (DH.2 hne) DS).mono ?_;rintro e w' ⟨q,er,rfl,k,s',m',q2,q3,q4⟩;rcases PT (show b<=36 by omega) bs with⟨a1,a2⟩|⟨⟨d,hd,hbd⟩,a2⟩
   ·rw[a2]at Nj;cases Nj
   ·rcases k with⟨_,k2,_⟩|⟨rfl,_⟩
    ·have:=k2 d hd;omega
    ·exact⟨none,0,s',m',rfl,q2,q3,q4⟩
end
end Go.Proofs.YtkdmippllpekfaaGreatDoor
