/- DivTrees: what the law's walk comes to, once the code is what the document asks. Written by gen_trees.py. -/
import Derived.Deep.RegionHeld3
import Derived.Test.YtpdpnomocbehkaaGreatDoorB42
import Derived.Test.YtpdpnomocbehkaaGreatDoorXDivTrees
import Derived.Test.YtpdpnomocbehkaaGreatDoorB13
import Derived.Test.YtpdpnomocbehkaaGreatDoorB9
import Derived.Test.YtpdpnomocbehkaaGreatDoorB30
namespace Go.Proofs.YtpdpnomocbehkaaGreatDoor
open Go.RowKit
theorem zm{w w':World}{gp:Option Addr}{bp op:Nat}{vs:List Value}(h:RowsIn w gp bp op vs)(b:Below w.heap.size w w'):RowsIn w' gp bp op vs:=
 ⟨h.head,fun j hj=>(b.cell (p:=⟨bp,op+j,none⟩) (World.block_lt_of_cell? _ _ (h.cell j hj))).trans (h.cell j hj),fun j hj=>by
  obtain⟨ga,bb,o,cap,xs,e,r,d⟩:=h.each j hj
  exact⟨ga,bb,o,cap,xs,e,r.next b,d⟩⟩
theorem fO{K:Nat}{w:World}{v:Value}{n:Nat}(h:oM K w v n)(hK:K<=1073741824):Calls Tryz.prog 16 #[v] w fun e w'=>∃ u,e=.returned u/\bu w' u n/\Below w.heap.size w w':=by
 obtain⟨ga,b,o,cap,xs,rfl,hr,hd,hv,hl⟩:=h
 exact bR w ga b o cap _ n xs rfl (by omega) hr hd hv.symm
theorem dU{K:Nat}{w:World}{v:Value}{n:Nat}(h:oM K w v n)(hK:K<=1073741824):Calls Tryz.prog 13 #[v] w fun e w'=>e=.returned (.int .i64 (wl n:Int))/\w'=w:=by
 obtain⟨ga,b,o,cap,xs,rfl,hr,hd,hv,hl⟩:=h
 exact bo w ga b o cap _ n xs rfl (by omega) hr hd hv.symm
theorem nw{K:Nat}{w:World}{v:Value}{n:Nat}(h:oM K w v n)(hK:K<=16384):aX w v n:=by
 obtain⟨ga,b,o,cap,xs,rfl,hr,hd,hv,hl⟩:=h
 exact⟨ga,b,o,cap,xs,rfl,hr,hd,hv,by omega⟩
theorem KT{K:Nat}{w:World}{v:Value}{n:Nat}(h:oM K w v n)(z:Int):v≠ .int .i64 z:=by
 obtain⟨ga,b,o,cap,xs,rfl,_⟩:=h
 intro e;cases e
theorem aw.inL{w w':World}{gv gr gd gm gt gk ge g K:Nat}{s l m:Int}{T:Tab}(h:aw w gv gr gd gm gt gk ge g s l m T)(o:Out (·=g) w w'){v:Value}{n:Nat}(r:oM K w v n):oM K w' v n:=by
 obtain⟨ga,b,oo,cap,xs,rfl,hr,hd,hv,hl⟩:=r
 exact⟨ga,b,oo,cap,xs,rfl,h.rep o hr,hd,hv,hl⟩
theorem aw.rowsN{w w':World}{gv gr gd gm gt gk ge g K:Nat}{s l m:Int}{T:Tab}(h:aw w gv gr gd gm gt gk ge g s l m T)(o:Out (·=g) w w'){gp:Option Addr}{bp op:Nat}{vs:List Value}{ns:List Nat}(r:eb K w gp bp op vs ns):eb K w' gp bp op vs ns:=
 ⟨r.head,r.len,fun j hj=>h.rcp.div.mul.cell o (r.cell j hj) rfl (fun z=>KT (r.each j hj) z),fun j hj=>h.inL o (r.each j hj)⟩
theorem aw.lg{w:World}{gv gr gd gm gt gk ge g:Nat}{s l m:Int}{T:Tab}(h:aw w gv gr gd gm gt gk ge g s l m T):g<w.heap.size:=h.met.lt
def pB(w:World)(S bx ox n:Nat)(rs:Nat->Value)(fs:Nat->Nat):Prop:=∀ j,j<n->w.cell? ⟨bx,ox+j,none⟩=some (rs j)/\ah S w (rs j) (fs j)
theorem pB.next{w w':World}{S bx ox n:Nat}{rs:Nat->Value}{fs:Nat->Nat}(h:pB w S bx ox n rs fs)(b:Below w.heap.size w w'):pB w' S bx ox n rs fs:=fun j hj=>
 ⟨(b.cell (p:=⟨bx,ox+j,none⟩) (World.block_lt_of_cell? _ _ (h j hj).1)).trans (h j hj).1,(h j hj).2.next b⟩
theorem pB.eng{w w':World}{gv gr gd gm gt gk ge g S bx ox n:Nat}{s l m:Int}{T:Tab}{rs:Nat->Value}{fs:Nat->Nat}(h:pB w S bx ox n rs fs)(e:aw w gv gr gd gm gt gk ge g s l m T)(o:Out (·=g) w w')(hg:g<S):pB w' S bx ox n rs fs:=fun j hj=>
 ⟨e.rcp.div.mul.cell o (h j hj).1 rfl (fun z e=>by obtain⟨a,l,c,e2⟩:=(h j hj).2.shape;rw[e2]at e;cases e),o.newW (h j hj).2 (fun k e=>by rw[e];exact hg)⟩
set_option maxRecDepth 100000 in
set_option maxHeartbeats 12800000 in
theorem tP(SN:fw)(SD:df)(SM:vy)(SO:po)(SV:nY)(SVN:kW)(T:Tab)(ga:Option Addr)(ba oa ca la:Nat)(xs:List Nat)(gp:Option Addr)(bp op cp np:Nat)(vs:List Value)(w:World)(hxs:xs.length=la)(HrA:Rep w ga ba oa ca xs)(kxs:∀ j,xs.getD j 0<18446744073709551616)(hvl:vs.length=np)(hP:RowsIn w gp bp op vs)(hT:TB w):
  Calls Tryz.prog 7 #[T.val,.slice ga la ca,.slice gp np cp] w fun e w'=>e=.returned (.bool true)/\Below w.heap.size w w':=by
 obtain⟨na,hca⟩:∃ k,k=min la 30:=⟨_,rfl⟩
 have Ca:Hid (∀ w,Calls Tryz.prog 9 #[.slice ga la ca,.int .i64 30] w fun e w'=>e=.returned (.slice ga na ca)/\w'=w):=fun w=>dG w ga la ca 30 na (by have:=HrA.room;omega) (by omega) hca
 obtain⟨hla,rA⟩:=dH HrA 30 na (by rw[hxs];exact hca)
 have dx:ao (xs.take na):=bq kxs na
 have hma:na<=30:=by omega
 clear hca HrA kxs hxs
 generalize xs.take na=us at *
 obtain⟨A,hva⟩:∃ k,k=af us:=⟨_,rfl⟩
 have LA:Hid (A<18446744073709551616^30):=by show _<_;rw[hva];exact aP (ak dx) (by omega)
 have BA:Hid (A<4294967296^60):=by have:=ae LA;rw[fo]at this;exact this
 have wlA:wl A<=30:=cI _ _ (ae LA)
 have mA:oM 30 w (.slice ga na ca) A:=⟨ga,ba,oa,ca,us,by rw[hla],rA,dx,hva.symm,by omega⟩
 clear hva hla rA dx
 have bl:=Below.refl w.heap.size w
 have b0:Below w.heap.size w (w.alloc (.cells #[.int .i64 T.b,.int .i64 T.t,.int .i64 T.n,.int .i64 T.d,.int .i64 T.r,.int .i64 T.l,.int .i64 T.x,.int .i64 T.p,.int .i64 T.k,.int .i64 T.s,.int .i64 T.e] 23)):=(Below.refl _ _).alloc (Nat.le_refl _) _
 have tA:=bg w T 23
 obtain⟨W1,hW1⟩:∃ W,w.alloc (.cells #[.int .i64 T.b,.int .i64 T.t,.int .i64 T.n,.int .i64 T.d,.int .i64 T.r,.int .i64 T.l,.int .i64 T.x,.int .i64 T.p,.int .i64 T.k,.int .i64 T.s,.int .i64 T.e] 23)=W:=⟨_,rfl⟩
 rw[hW1]at b0 tA
 obtain⟨P0,hP0⟩:∃ P,w.heap.size=P:=⟨_,rfl⟩
 rw[hP0]at tA
 have lP:P0<W1.heap.size:=tA.lt
 have HT:=hide hT
 have mA:=mA.next b0
 have bl:=ag bl b0
 have CC:=hide (Gu W1 gp bp op cp np 9 8 vs hvl (by omega) (by omega) (zm hP b0))
 have CN:=hide (fun W=>SN T W)
 have HM:=hide SM
 have HMN:=hide SO
 have HV:=hide SV
 have HVN:=hide SVN
 have CK:=hide (fun W h=>aM SN SD W h)
 clear SN SD SM SO SV SVN hP hvl b0 hT
 unfold Tab.val at CN ⊢
 go_enter Tryz.func7,Tryz.ntmps7
 go_wp2_with fail
 refine(ae Ca _).mono ?_
 rintro e wca ⟨rfl,hw⟩
 obtain rfl:=hw.symm
 clear Ca hw
 go_wp2_with fail
 refine(ae CC).mono ?_
 rintro e w1 ⟨ns,g1,b1,c1,us1,rfl,hl1,R1,b⟩
 clear CC
 have tA:=tA.next b
 have mA:=mA.next b
 have bl:=ag bl b
 clear b
 obtain⟨n,hn⟩:∃ n,n=us1.length:=⟨_,rfl⟩
 rw[<-hn]at hl1 ⊢
 have HN:=hide hn.symm
 clear hn
 have tX0:=tA
 obtain⟨p0,p1,p2,p3,p4,p5,p6,p7,p8,p9,p10⟩:=tX0
 go_wp2_with fail
 refine(ae CN _).mono ?_
 rintro e w2 ⟨gv,gr,gd,gm,gt,gk,ge,g,rfl,E,hn,b⟩
 clear p0 p1 p2 p3 p4 p5 p6 p7 p8 p9 p10
 have hg:w.heap.size<=g:=by have:=bl.size;omega
 clear hn CN tA
 have R1:=R1.next b
 have mA:=mA.next b
 have bl:=ag bl b
 clear b
 have hn9:n<=9:=hl1.1
 clear hl1
 go_wp2_with fail
 refine(pY 8 _ g1 b1 0 c1 n us1 ns (ae HN) (by omega) R1).mono ?_
 rintro e w3 ⟨g2,b2,c2,us2,rfl,hl2,R2,b⟩
 have R1:=R1.next b
 have E:=E.next b
 have mA:=mA.next b
 have bl:=ag bl b
 clear b
 have h2n:us2.length=n:=by rw[<-R2.len,R1.len,ae HN]
 rw[h2n]at hl2 ⊢
 have lg:=E.lg
 obtain⟨S3,hS3⟩:∃ S3,S3=w3.heap.size:=⟨_,rfl⟩
 rw[<-hS3]at lg
 by_cases hz:∃ j,j<n/\ns.getD j 0=0
 ·have CM:=hide (ae HMN w3 gv gr gd gm gt gk ge g 0 0 0 T _ A g2 b2 0 c2 n 8 us2 ns E ((ae HT).next bl) (by decide) (by decide) (by decide) (by decide) (nw mA (by omega)) (by omega) h2n (by omega) hl2.2 (by omega) R2 hz)
  have HZ:=hide hz
  clear hz R2 hl2
  go_wp2_with fail
  with_reducible refine(ae CM).mono ?_
  rintro e w4 ⟨xa,cx,s1,m1,rfl,E2,⟨sa,sb⟩,o⟩
  have R1:=E.rowsN o R1
  have mA:=E.inL o mA
  have bl:=bl.trans (o.below (B:=w.heap.size) bl.size (fun k hk=>by rw[hk];exact hg))
  have E:=E2
  clear o E2 CM HM HMN hS3
  go_wp2_with fail
  refine(pY 8 _ g1 b1 0 c1 n us1 ns (ae HN) (by omega) R1).mono ?_
  rintro e w5 ⟨g3,b3,c3,us3,rfl,hl3,R3,b⟩
  have R1:=R1.next b
  have E:=E.next b
  have mA:=mA.next b
  have bl:=ag bl b
  clear b
  have h3n:us3.length=n:=by rw[<-R3.len,R1.len,ae HN]
  rw[h3n]at hl3 ⊢
  rcases Nat.eq_zero_or_pos A with hA0|hA0
  case inl=>
   have wA0:wl A=0:=ay.2 hA0
   have CM:=hide (ae HVN w5 gv gr gd gm gt gk ge g s1 0 m1 T _ g3 b3 0 c3 n 8 us3 ns E ((ae HT).next bl) sa (by omega) (by decide) (by decide) (by have:=nw mA (show 30<=16384 by omega);rw[hA0]at this;exact this) h3n (by omega) hl3.2 (by omega) R3)
   obtain⟨q,hq⟩:∃ q:Bool,q=false:=⟨_,rfl⟩
   rw[<-hq]at CM
   go_wp2_with fail
   with_reducible refine(ae CM).mono ?_
   rintro e w6 ⟨s2,m2,rfl,E2,_,o⟩
   have R1:=E.rowsN o R1
   have mA:=E.inL o mA
   have bl:=bl.trans (o.below (B:=w.heap.size) bl.size (fun k hk=>by rw[hk];exact hg))
   clear o E2 E CM HV HVN R3 hl3 sa sb
   have HMA:=hide mA
   have CWa:Hid (∀ W,Below w6.heap.size w6 W->Calls Tryz.prog 13 #[.slice ga na ca] W fun e w'=>e=.returned (.int .i64 (wl A:Int))/\w'=W):=fun W b=>dU ((ae HMA).next b) (by omega)
   generalize hwa:wl A=wa at *
   have CW0:=hide (ae CWa _ (Below.refl _ _))
   have HR1:=hide R1
   have HBL:=hide bl
   have HQ:=hide hq
   have HA0:=hide hA0
   have HWa:=hide wA0
   clear mA R1 bl hq hA0 hwa
   subst wA0
   go_wp2_with fail
   with_reducible refine(ae CW0).mono ?_
   rintro e wz ⟨rfl,hw⟩
   obtain rfl:=hw.symm
   clear hw CW0
   go_wp2
   go_loopw [12,13] (fun ev i wr=>ev=.bool false/\i=.int .i64 0/\wr=w6) (fun _ _ _=>0)
   case atStart=>exact⟨rfl,rfl,rfl⟩
   case round=>
    obtain⟨rfl,rfl,hw⟩:=hrel
    obtain rfl:=hw.symm
    clear hw
    obtain rfl:=ae HQ
    by_cases h1:0<n
    ·have hki:(0:Int)<(n:Int):=by omega
     have bw:=Below.refl w6.heap.size w6
     have CW1:=hide (ae CWa _ bw)
     go_wp2_with fail
     with_reducible refine(ae CW1).mono ?_
     rintro e wz1 ⟨rfl,hw⟩
     obtain rfl:=hw.symm
     clear hw
     go_wp2_with fail
     with_reducible refine(ae CW1).mono ?_
     rintro e wz1 ⟨rfl,hw⟩
     obtain rfl:=hw.symm
     clear hw CW1 CWa
     have R1:=(ae HR1).next bw
     have CW:Hid (∀ j,j<n->Calls Tryz.prog 13 #[us1.getD j undef] w6 fun e w'=>e=.returned (.int .i64 (wl (ns.getD j 0):Int))/\w'=w6):=fun j hj=>dU (R1.each j (by rw[ae HN];exact hj)) (by omega)
     have HCc:Hid (∀ j,j<n->g1=some ⟨b1,0,none⟩/\w6.cell? ⟨b1,0+j,none⟩=some (us1.getD j undef)):=fun j hj=>⟨R1.head (by rw[ae HN];omega),R1.cell j (by rw[ae HN];exact hj)⟩
     have bl:=(ae HBL).trans (bw.mono (ae HBL).size)
     clear R1
     go_wp2
     go_loopw [14] (fun i wq=>∃ k:Nat,k<=n/\i=.int .i64 (k:Int)/\Hid (∀ j,j<k->ns.getD j 0≠0)/\wq=w6) (fun i _=>n-(intOf i).toNat)
     case atStart=>exact⟨0,Nat.zero_le _,rfl,fun j hj=>absurd hj (by omega),rfl⟩
     case round=>
      obtain⟨k2,hk2,rfl,hNz,hw⟩:=hrel
      obtain rfl:=hw.symm
      clear hw
      by_cases h2:k2<n
      ·obtain⟨rfl,ck⟩:=ae HCc k2 h2
       have CWk:=ae CW k2 h2
       obtain⟨v,hv⟩:∃ v,v=us1.getD k2 undef:=⟨_,rfl⟩
       rw[<-hv]at ck CWk
       rw[Nat.zero_add]at ck
       have hki2:(k2:Int)<(n:Int):=by omega
       by_cases hz:ns.getD k2 0=0
       ·rw[hz,aZ]at CWk
        have CWk:=hide CWk
        clear hv hz
        go_wp2_with fail
        refine(ae CWk).mono ?_
        rintro e wy ⟨rfl,hw⟩
        obtain rfl:=hw.symm
        clear hw
        go_wp2_with fail
        refine(ae CK _ ((ae HT).next bl)).mono ?_
        rintro e wk ⟨rfl,b6⟩
        have bl:=ag bl b6
        clear b6
        go_wp2
        go_ret
        exact⟨rfl,bl⟩
       ·have hwl:wl (ns.getD k2 0)≠0:=fun e=>hz (ay.1 e)
        have HN2:Hid (∀ j,j<k2+1->ns.getD j 0≠0):=fun j hj=>by
         by_cases e:j=k2
         ·subst e;exact hz
         ·exact hNz.out j (by omega)
        generalize wl (ns.getD k2 0)=qq at *
        have hqi:((qq:Int)==0)=false:=by simp;omega
        have CWk:=hide CWk
        clear hv hz hwl
        go_wp2_with fail
        refine(ae CWk).mono ?_
        rintro e wy ⟨rfl,hw⟩
        obtain rfl:=hw.symm
        clear hw
        go_wp2
        exact⟨⟨k2+1,by omega,by go_num,HN2,trivial⟩,by simp[intOf];omega⟩
      ·obtain⟨j0,hj0,hz0⟩:=ae HZ
       exact absurd hz0 (hNz.out j0 (by omega))
    ·have hki:¬(0:Int)<(n:Int):=by omega
     have bw:=Below.refl w6.heap.size w6
     have CW1:=hide (ae CWa _ bw)
     go_wp2_with fail
     with_reducible refine(ae CW1).mono ?_
     rintro e wz1 ⟨rfl,hw⟩
     obtain rfl:=hw.symm
     clear hw
     go_wp2_with fail
     with_reducible refine(ae CW1).mono ?_
     rintro e wz1 ⟨rfl,hw⟩
     obtain rfl:=hw.symm
     clear hw CW1 CWa
     have R1:=(ae HR1).next bw
     have CW:Hid (∀ j,j<n->Calls Tryz.prog 13 #[us1.getD j undef] w6 fun e w'=>e=.returned (.int .i64 (wl (ns.getD j 0):Int))/\w'=w6):=fun j hj=>dU (R1.each j (by rw[ae HN];exact hj)) (by omega)
     have HCc:Hid (∀ j,j<n->g1=some ⟨b1,0,none⟩/\w6.cell? ⟨b1,0+j,none⟩=some (us1.getD j undef)):=fun j hj=>⟨R1.head (by rw[ae HN];omega),R1.cell j (by rw[ae HN];exact hj)⟩
     have bl:=(ae HBL).trans (bw.mono (ae HBL).size)
     clear R1
     go_wp2
     go_loopw [14] (fun i wq=>∃ k:Nat,k<=n/\i=.int .i64 (k:Int)/\Hid (∀ j,j<k->ns.getD j 0≠0)/\wq=w6) (fun i _=>n-(intOf i).toNat)
     case atStart=>exact⟨0,Nat.zero_le _,rfl,fun j hj=>absurd hj (by omega),rfl⟩
     case round=>
      obtain⟨k2,hk2,rfl,hNz,hw⟩:=hrel
      obtain rfl:=hw.symm
      clear hw
      by_cases h2:k2<n
      ·obtain⟨rfl,ck⟩:=ae HCc k2 h2
       have CWk:=ae CW k2 h2
       obtain⟨v,hv⟩:∃ v,v=us1.getD k2 undef:=⟨_,rfl⟩
       rw[<-hv]at ck CWk
       rw[Nat.zero_add]at ck
       have hki2:(k2:Int)<(n:Int):=by omega
       by_cases hz:ns.getD k2 0=0
       ·rw[hz,aZ]at CWk
        have CWk:=hide CWk
        clear hv hz
        go_wp2_with fail
        refine(ae CWk).mono ?_
        rintro e wy ⟨rfl,hw⟩
        obtain rfl:=hw.symm
        clear hw
        go_wp2_with fail
        refine(ae CK _ ((ae HT).next bl)).mono ?_
        rintro e wk ⟨rfl,b6⟩
        have bl:=ag bl b6
        clear b6
        go_wp2
        go_ret
        exact⟨rfl,bl⟩
       ·have hwl:wl (ns.getD k2 0)≠0:=fun e=>hz (ay.1 e)
        have HN2:Hid (∀ j,j<k2+1->ns.getD j 0≠0):=fun j hj=>by
         by_cases e:j=k2
         ·subst e;exact hz
         ·exact hNz.out j (by omega)
        generalize wl (ns.getD k2 0)=qq at *
        have hqi:((qq:Int)==0)=false:=by simp;omega
        have CWk:=hide CWk
        clear hv hz hwl
        go_wp2_with fail
        refine(ae CWk).mono ?_
        rintro e wy ⟨rfl,hw⟩
        obtain rfl:=hw.symm
        clear hw
        go_wp2
        exact⟨⟨k2+1,by omega,by go_num,HN2,trivial⟩,by simp[intOf];omega⟩
      ·obtain⟨j0,hj0,hz0⟩:=ae HZ
       exact absurd hz0 (hNz.out j0 (by omega))
  case inr=>
   have wA0:wl A≠0:=fun e=>by have:=ay.1 e;omega
   obtain⟨q,hq⟩:∃ q:Bool,q=true↔∀ j,j<n->ns.getD j 0%A=0:=by
    by_cases h:∀ j,j<n->ns.getD j 0%A=0
    ·exact⟨true,by simp;exact h⟩
    ·exact⟨false,by simp;simpa using h⟩
   have CM:=hide (ae HV w5 gv gr gd gm gt gk ge g s1 0 m1 T _ A g3 b3 0 c3 n 8 us3 ns q E ((ae HT).next bl) sa (by omega) (by decide) (by decide) (nw mA (by omega)) hA0 (by omega) h3n (by omega) hl3.2 (by omega) R3 hq)
   go_wp2_with fail
   with_reducible refine(ae CM).mono ?_
   rintro e w6 ⟨s2,m2,rfl,E2,_,o⟩
   have R1:=E.rowsN o R1
   have mA:=E.inL o mA
   have bl:=bl.trans (o.below (B:=w.heap.size) bl.size (fun k hk=>by rw[hk];exact hg))
   clear o E2 E CM HV HVN R3 hl3 sa sb
   have HMA:=hide mA
   have CWa:Hid (∀ W,Below w6.heap.size w6 W->Calls Tryz.prog 13 #[.slice ga na ca] W fun e w'=>e=.returned (.int .i64 (wl A:Int))/\w'=W):=fun W b=>dU ((ae HMA).next b) (by omega)
   generalize hwa:wl A=wa at *
   have CW0:=hide (ae CWa _ (Below.refl _ _))
   have HR1:=hide R1
   have HBL:=hide bl
   have HQ:=hide hq
   have HA0:=hide hA0
   have HWa:=hide wA0
   clear mA R1 bl hq hA0 hwa
   have hwi:(0:Int)<(wa:Int):=by omega
   have hwe:((wa:Int)==0)=false:=by simp;omega
   go_wp2_with fail
   with_reducible refine(ae CW0).mono ?_
   rintro e wz ⟨rfl,hw⟩
   obtain rfl:=hw.symm
   clear hw CW0
   go_wp2
   go_loopw [12,13] (fun ev i wr=>∃(k:Nat) (bv:Bool),k<=n/\i=.int .i64 (k:Int)/\ev=.bool bv/\Hid (bv=true↔∀ j,j<k->ns.getD j 0%A=0)/\Below w6.heap.size w6 wr) (fun _ i _=>n-(intOf i).toNat)
   case atStart=>exact⟨0,true,Nat.zero_le _,rfl,by rw[decide_eq_true (show 0<wa by omega)],⟨fun _ j hj=>absurd hj (by omega),fun _=>rfl⟩,Below.refl _ _⟩
   case round=>
    obtain⟨k,bv,hk,rfl,rfl,hI,bw⟩:=hrel
    by_cases h1:k<n
    ·have hki:(k:Int)<(n:Int):=by omega
     cases bv
     case false=>
      obtain rfl:q=false:=by
       cases q
       ·rfl
       ·exact absurd (hI.out.2 (fun j hj=>(ae HQ).1 rfl j (by omega))) (by simp)
      clear hI
      have CW1:=hide (ae CWa _ bw)
      go_wp2_with fail
      with_reducible refine(ae CW1).mono ?_
      rintro e wz1 ⟨rfl,hw⟩
      obtain rfl:=hw.symm
      clear hw
      go_wp2_with fail
      with_reducible refine(ae CW1).mono ?_
      rintro e wz1 ⟨rfl,hw⟩
      obtain rfl:=hw.symm
      clear hw CW1 CWa
      have R1:=(ae HR1).next bw
      have CW:Hid (∀ j,j<n->Calls Tryz.prog 13 #[us1.getD j undef] wr fun e w'=>e=.returned (.int .i64 (wl (ns.getD j 0):Int))/\w'=wr):=fun j hj=>dU (R1.each j (by rw[ae HN];exact hj)) (by omega)
      have HCc:Hid (∀ j,j<n->g1=some ⟨b1,0,none⟩/\wr.cell? ⟨b1,0+j,none⟩=some (us1.getD j undef)):=fun j hj=>⟨R1.head (by rw[ae HN];omega),R1.cell j (by rw[ae HN];exact hj)⟩
      have bl:=(ae HBL).trans (bw.mono (ae HBL).size)
      clear R1
      go_wp2
      go_loopw [14] (fun i wq=>∃ k:Nat,k<=n/\i=.int .i64 (k:Int)/\Hid (∀ j,j<k->ns.getD j 0≠0)/\wq=wr) (fun i _=>n-(intOf i).toNat)
      case atStart=>exact⟨0,Nat.zero_le _,rfl,fun j hj=>absurd hj (by omega),rfl⟩
      case round=>
       obtain⟨k2,hk2,rfl,hNz,hw⟩:=hrel
       obtain rfl:=hw.symm
       clear hw
       by_cases h2:k2<n
       ·obtain⟨rfl,ck⟩:=ae HCc k2 h2
        have CWk:=ae CW k2 h2
        obtain⟨v,hv⟩:∃ v,v=us1.getD k2 undef:=⟨_,rfl⟩
        rw[<-hv]at ck CWk
        rw[Nat.zero_add]at ck
        have hki2:(k2:Int)<(n:Int):=by omega
        by_cases hz:ns.getD k2 0=0
        ·rw[hz,aZ]at CWk
         have CWk:=hide CWk
         clear hv hz
         go_wp2_with fail
         refine(ae CWk).mono ?_
         rintro e wy ⟨rfl,hw⟩
         obtain rfl:=hw.symm
         clear hw
         go_wp2_with fail
         refine(ae CK _ ((ae HT).next bl)).mono ?_
         rintro e wk ⟨rfl,b6⟩
         have bl:=ag bl b6
         clear b6
         go_wp2
         go_ret
         exact⟨rfl,bl⟩
        ·have hwl:wl (ns.getD k2 0)≠0:=fun e=>hz (ay.1 e)
         have HN2:Hid (∀ j,j<k2+1->ns.getD j 0≠0):=fun j hj=>by
          by_cases e:j=k2
          ·subst e;exact hz
          ·exact hNz.out j (by omega)
         generalize wl (ns.getD k2 0)=qq at *
         have hqi:((qq:Int)==0)=false:=by simp;omega
         have CWk:=hide CWk
         clear hv hz hwl
         go_wp2_with fail
         refine(ae CWk).mono ?_
         rintro e wy ⟨rfl,hw⟩
         obtain rfl:=hw.symm
         clear hw
         go_wp2
         exact⟨⟨k2+1,by omega,by go_num,HN2,trivial⟩,by simp[intOf];omega⟩
       ·obtain⟨j0,hj0,hz0⟩:=ae HZ
        exact absurd hz0 (hNz.out j0 (by omega))
     case true=>
      have hx:=hI.out.1 rfl
      obtain rfl:=(ae HR1).head (by rw[ae HN];omega)
      have c1:=(ae HR1).cell k (by rw[ae HN];exact h1)
      have m1:=(ae HR1).each k (by rw[ae HN];exact h1)
      rw[Nat.zero_add]at c1
      obtain⟨v,hv⟩:∃ v,v=us1.getD k undef:=⟨_,rfl⟩
      obtain⟨C,hC⟩:∃ C,C=ns.getD k 0:=⟨_,rfl⟩
      rw[<-hv]at c1 m1
      rw[<-hC]at m1
      have hI2:Hid (decide (C%A=0)=true↔∀ j,j<k+1->ns.getD j 0%A=0):=by
       refine⟨fun h j hj=>?_,fun h=>?_⟩
       ·by_cases e:j=k
        ·rw[e, <-hC];exact of_decide_eq_true h
        ·exact hx j (by omega)
       ·have:=h k (by omega)
        rw[<-hC]at this
        exact decide_eq_true this
      have hCl:=m1.lt
      have HCl:Hid (C<4294967296^60):=by have:=aP hCl (q:=30) (by omega);rw[fo]at this;exact this
      have CFv:Hid (∀ W,Below w6.heap.size w6 W->Calls Tryz.prog 16 #[v] W fun e w'=>∃ u,e=.returned u/\bu w' u C/\Below W.heap.size W w'):=fun W b=>fO (m1.next b) (by omega)
      have CFa:Hid (∀ W,Below w6.heap.size w6 W->Calls Tryz.prog 16 #[.slice ga na ca] W fun e w'=>∃ u,e=.returned u/\bu w' u A/\Below W.heap.size W w'):=fun W b=>fO ((ae HMA).next b) (by omega)
      have CMd:Hid (∀ W x y,bu W x C->bu W y A->Calls Tryz.prog 38 #[x,y] W fun e w'=>∃ u,e=.returned u/\bu w' u (C%A)/\Below W.heap.size W w'):=fun W x y hx hy=>iR W x y C A 60 (by omega) (ae HCl) (ae BA) (ae HA0) hx hy
      have CZr:Hid (∀ W x,bu W x (C%A)->Calls Tryz.prog 33 #[x] W fun e w'=>e=.returned (.bool (decide (C%A=0)))/\w'=W):=fun W x hx=>iS W x _ _ rfl hx
      have hb1:=World.block_lt_of_cell? _ _ c1
      have d1:=(bw.cell (p:=⟨b1,k,none⟩) hb1).trans c1
      obtain⟨va,vb,vo,vc,vxs,rfl,_⟩:=m1
      generalize vxs.length=vl at *
      generalize decide (C%A=0)=bz at *
      generalize C%A=CA at *
      clear hI hx hv hC hCl c1 CWa
      go_wp2_with fail
      with_reducible refine(ae CFv _ bw).mono ?_
      rintro e wf1 ⟨u1,rfl,n1,b⟩
      have bw:=bw.trans (b.mono bw.size)
      clear b d1
      go_wp2_with fail
      with_reducible refine(ae CFa _ bw).mono ?_
      rintro e wf2 ⟨u2,rfl,n2,b⟩
      have bw:=bw.trans (b.mono bw.size)
      have n1:=n1.next b
      clear b
      go_wp2_with fail
      with_reducible refine(ae CMd _ _ _ n1 n2).mono ?_
      rintro e wf3 ⟨u3,rfl,n3,b⟩
      have bw:=bw.trans (b.mono bw.size)
      clear b n1 n2
      go_wp2_with fail
      with_reducible refine(ae CZr _ _ n3).mono ?_
      rintro e wf4 ⟨rfl,hw⟩
      obtain rfl:=hw.symm
      clear hw n3
      go_wp2
      exact⟨⟨k+1,bz,by omega,by go_num,rfl,hI2,bw⟩,by simp[intOf];omega⟩
    ·have hki:¬(k:Int)<(n:Int):=by omega
     obtain rfl:n=k:=by omega
     obtain rfl:bv=q:=Bool.eq_iff_iff.2 (hI.out.trans (ae HQ).symm)
     clear hI
     have hqq:(bv !=bv)=false:=by cases bv<;>rfl
     have CW1:=hide (ae CWa _ bw)
     go_wp2_with fail
     with_reducible refine(ae CW1).mono ?_
     rintro e wz1 ⟨rfl,hw⟩
     obtain rfl:=hw.symm
     clear hw
     go_wp2_with fail
     with_reducible refine(ae CW1).mono ?_
     rintro e wz1 ⟨rfl,hw⟩
     obtain rfl:=hw.symm
     clear hw CW1 CWa
     have R1:=(ae HR1).next bw
     have CW:Hid (∀ j,j<n->Calls Tryz.prog 13 #[us1.getD j undef] wr fun e w'=>e=.returned (.int .i64 (wl (ns.getD j 0):Int))/\w'=wr):=fun j hj=>dU (R1.each j (by rw[ae HN];exact hj)) (by omega)
     have HCc:Hid (∀ j,j<n->g1=some ⟨b1,0,none⟩/\wr.cell? ⟨b1,0+j,none⟩=some (us1.getD j undef)):=fun j hj=>⟨R1.head (by rw[ae HN];omega),R1.cell j (by rw[ae HN];exact hj)⟩
     have bl:=(ae HBL).trans (bw.mono (ae HBL).size)
     clear R1
     go_wp2
     go_loopw [14] (fun i wq=>∃ k:Nat,k<=n/\i=.int .i64 (k:Int)/\Hid (∀ j,j<k->ns.getD j 0≠0)/\wq=wr) (fun i _=>n-(intOf i).toNat)
     case atStart=>exact⟨0,Nat.zero_le _,rfl,fun j hj=>absurd hj (by omega),rfl⟩
     case round=>
      obtain⟨k2,hk2,rfl,hNz,hw⟩:=hrel
      obtain rfl:=hw.symm
      clear hw
      by_cases h2:k2<n
      ·obtain⟨rfl,ck⟩:=ae HCc k2 h2
       have CWk:=ae CW k2 h2
       obtain⟨v,hv⟩:∃ v,v=us1.getD k2 undef:=⟨_,rfl⟩
       rw[<-hv]at ck CWk
       rw[Nat.zero_add]at ck
       have hki2:(k2:Int)<(n:Int):=by omega
       by_cases hz:ns.getD k2 0=0
       ·rw[hz,aZ]at CWk
        have CWk:=hide CWk
        clear hv hz
        go_wp2_with fail
        refine(ae CWk).mono ?_
        rintro e wy ⟨rfl,hw⟩
        obtain rfl:=hw.symm
        clear hw
        go_wp2_with fail
        refine(ae CK _ ((ae HT).next bl)).mono ?_
        rintro e wk ⟨rfl,b6⟩
        have bl:=ag bl b6
        clear b6
        go_wp2
        go_ret
        exact⟨rfl,bl⟩
       ·have hwl:wl (ns.getD k2 0)≠0:=fun e=>hz (ay.1 e)
        have HN2:Hid (∀ j,j<k2+1->ns.getD j 0≠0):=fun j hj=>by
         by_cases e:j=k2
         ·subst e;exact hz
         ·exact hNz.out j (by omega)
        generalize wl (ns.getD k2 0)=qq at *
        have hqi:((qq:Int)==0)=false:=by simp;omega
        have CWk:=hide CWk
        clear hv hz hwl
        go_wp2_with fail
        refine(ae CWk).mono ?_
        rintro e wy ⟨rfl,hw⟩
        obtain rfl:=hw.symm
        clear hw
        go_wp2
        exact⟨⟨k2+1,by omega,by go_num,HN2,trivial⟩,by simp[intOf];omega⟩
      ·obtain⟨j0,hj0,hz0⟩:=ae HZ
       exact absurd hz0 (hNz.out j0 (by omega))
 ·have hz':∀ j,j<n->0<ns.getD j 0:=fun j hj=>Nat.pos_of_ne_zero (fun e=>hz ⟨j,hj,e⟩)
  have CM:=hide (ae HM w3 gv gr gd gm gt gk ge g 0 0 0 T _ A g2 b2 0 c2 n 8 us2 ns E ((ae HT).next bl) (by decide) (by decide) (by decide) (by decide) (nw mA (by omega)) (by omega) h2n (by omega) hl2.2 (by omega) R2 hz')
  have HZ:=hide hz'
  clear hz hz' R2 hl2
  go_wp2_with fail
  with_reducible refine(ae CM).mono ?_
  rintro e w4 ⟨xa,bx,ox,cx,rs,s1,m1,rfl,hcx,hxh,hxr,E2,⟨sa,sb⟩,o⟩
  have XR:pB w4 S3 bx ox n rs (fun j=>A%ns.getD j 0):=by rw[hS3];exact hxr
  clear hxr
  have R1:=E.rowsN o R1
  have mA:=E.inL o mA
  have bl:=bl.trans (o.below (B:=w.heap.size) bl.size (fun k hk=>by rw[hk];exact hg))
  have E:=E2
  clear o E2 CM HM HMN hS3
  go_wp2_with fail
  refine(pY 8 _ g1 b1 0 c1 n us1 ns (ae HN) (by omega) R1).mono ?_
  rintro e w5 ⟨g3,b3,c3,us3,rfl,hl3,R3,b⟩
  have R1:=R1.next b
  have E:=E.next b
  have mA:=mA.next b
  have XR:=XR.next b
  have bl:=ag bl b
  clear b
  have h3n:us3.length=n:=by rw[<-R3.len,R1.len,ae HN]
  rw[h3n]at hl3 ⊢
  rcases Nat.eq_zero_or_pos A with hA0|hA0
  case inl=>
   have wA0:wl A=0:=ay.2 hA0
   have CM:=hide (ae HVN w5 gv gr gd gm gt gk ge g s1 0 m1 T _ g3 b3 0 c3 n 8 us3 ns E ((ae HT).next bl) sa (by omega) (by decide) (by decide) (by have:=nw mA (show 30<=16384 by omega);rw[hA0]at this;exact this) h3n (by omega) hl3.2 (by omega) R3)
   obtain⟨q,hq⟩:∃ q:Bool,q=false:=⟨_,rfl⟩
   rw[<-hq]at CM
   go_wp2_with fail
   with_reducible refine(ae CM).mono ?_
   rintro e w6 ⟨s2,m2,rfl,E2,_,o⟩
   have R1:=E.rowsN o R1
   have mA:=E.inL o mA
   have XR:=XR.eng E o lg
   have bl:=bl.trans (o.below (B:=w.heap.size) bl.size (fun k hk=>by rw[hk];exact hg))
   clear o E2 E CM HV HVN R3 hl3 sa sb
   have HMA:=hide mA
   have CWa:Hid (∀ W,Below w6.heap.size w6 W->Calls Tryz.prog 13 #[.slice ga na ca] W fun e w'=>e=.returned (.int .i64 (wl A:Int))/\w'=W):=fun W b=>dU ((ae HMA).next b) (by omega)
   generalize hwa:wl A=wa at *
   have CW0:=hide (ae CWa _ (Below.refl _ _))
   have HR1:=hide R1
   have HBL:=hide bl
   have HQ:=hide hq
   have HA0:=hide hA0
   have HWa:=hide wA0
   clear mA R1 bl hq hA0 hwa
   subst wA0
   go_wp2_with fail
   with_reducible refine(ae CW0).mono ?_
   rintro e wz ⟨rfl,hw⟩
   obtain rfl:=hw.symm
   clear hw CW0
   go_wp2
   go_loopw [12,13] (fun ev i wr=>ev=.bool false/\i=.int .i64 0/\wr=w6) (fun _ _ _=>0)
   case atStart=>exact⟨rfl,rfl,rfl⟩
   case round=>
    obtain⟨rfl,rfl,hw⟩:=hrel
    obtain rfl:=hw.symm
    clear hw
    obtain rfl:=ae HQ
    by_cases h1:0<n
    ·have hki:(0:Int)<(n:Int):=by omega
     have bw:=Below.refl w6.heap.size w6
     have CW1:=hide (ae CWa _ bw)
     go_wp2_with fail
     with_reducible refine(ae CW1).mono ?_
     rintro e wz1 ⟨rfl,hw⟩
     obtain rfl:=hw.symm
     clear hw
     go_wp2_with fail
     with_reducible refine(ae CW1).mono ?_
     rintro e wz1 ⟨rfl,hw⟩
     obtain rfl:=hw.symm
     clear hw CW1 CWa
     have R1:=(ae HR1).next bw
     have CW:Hid (∀ j,j<n->Calls Tryz.prog 13 #[us1.getD j undef] w6 fun e w'=>e=.returned (.int .i64 (wl (ns.getD j 0):Int))/\w'=w6):=fun j hj=>dU (R1.each j (by rw[ae HN];exact hj)) (by omega)
     have HCc:Hid (∀ j,j<n->g1=some ⟨b1,0,none⟩/\w6.cell? ⟨b1,0+j,none⟩=some (us1.getD j undef)):=fun j hj=>⟨R1.head (by rw[ae HN];omega),R1.cell j (by rw[ae HN];exact hj)⟩
     have bl:=(ae HBL).trans (bw.mono (ae HBL).size)
     clear R1
     go_wp2
     go_loopw [14] (fun i wq=>∃ k:Nat,k<=n/\i=.int .i64 (k:Int)/\wq=w6) (fun i _=>n-(intOf i).toNat)
     case atStart=>exact⟨0,Nat.zero_le _,rfl,rfl⟩
     case round=>
      obtain⟨k2,hk2,rfl,hw⟩:=hrel
      obtain rfl:=hw.symm
      clear hw
      by_cases h2:k2<n
      ·obtain⟨rfl,ck⟩:=ae HCc k2 h2
       have CWk:=ae CW k2 h2
       obtain⟨v,hv⟩:∃ v,v=us1.getD k2 undef:=⟨_,rfl⟩
       rw[<-hv]at ck CWk
       rw[Nat.zero_add]at ck
       have hki2:(k2:Int)<(n:Int):=by omega
       have hwl:wl (ns.getD k2 0)≠0:=fun e=>by have:=ae HZ k2 h2;have:=ay.1 e;omega
       generalize wl (ns.getD k2 0)=qq at *
       have hqi:((qq:Int)==0)=false:=by simp;omega
       have CWk:=hide CWk
       clear hv hwl
       go_wp2_with fail
       refine(ae CWk).mono ?_
       rintro e wy ⟨rfl,hw⟩
       obtain rfl:=hw.symm
       clear hw
       go_wp2
       exact⟨⟨k2+1,by omega,by go_num,trivial⟩,by simp[intOf];omega⟩
      ·have hki2:¬(k2:Int)<(n:Int):=by omega
       clear CW HCc
       go_wp2
       go_loopw [15] (fun i wq=>∃ k:Nat,k<=n/\i=.int .i64 (k:Int)/\Below w6.heap.size w6 wq) (fun i _=>n-(intOf i).toNat)
       case atStart=>exact⟨0,Nat.zero_le _,rfl,bw⟩
       case round=>
        clear bw hki2 bl
        obtain⟨k3,hk3,rfl,bw⟩:=hrel
        by_cases h3:k3<n
        ·obtain rfl:=(ae HR1).head (by rw[ae HN];omega)
         obtain⟨rfl,hbx⟩:=hxh (by omega)
         have c1:=(ae HR1).cell k3 (by rw[ae HN];exact h3)
         have m1:=(ae HR1).each k3 (by rw[ae HN];exact h3)
         obtain⟨c2,n2⟩:=XR k3 h3
         have hpos:=(ae HZ) k3 h3
         rw[Nat.zero_add]at c1
         obtain⟨v,hv⟩:∃ v,v=us1.getD k3 undef:=⟨_,rfl⟩
         obtain⟨r,hr⟩:∃ r,r=rs k3:=⟨_,rfl⟩
         obtain⟨C,hC⟩:∃ C,C=ns.getD k3 0:=⟨_,rfl⟩
         rw[<-hv]at c1 m1
         simp only[<-hC]at m1 n2 hpos
         rw[<-hr]at c2 n2
         clear hv hr hC
         have hCl:=m1.lt
         have HCl:Hid (C<4294967296^60):=by have:=aP hCl (q:=30) (by omega);rw[fo]at this;exact this
         have HRl:Hid (A%C<18446744073709551616^30):=Nat.lt_of_le_of_lt (Nat.mod_le _ _) (ae LA)
         have HPos:=hide hpos
         have CFa:Hid (∀ W,Below w6.heap.size w6 W->Calls Tryz.prog 16 #[.slice ga na ca] W fun e w'=>∃ u,e=.returned u/\bu w' u A/\Below W.heap.size W w'):=fun W b=>fO ((ae HMA).next b) (by omega)
         have CFv:Hid (∀ W,Below w6.heap.size w6 W->Calls Tryz.prog 16 #[v] W fun e w'=>∃ u,e=.returned u/\bu w' u C/\Below W.heap.size W w'):=fun W b=>fO (m1.next b) (by omega)
         have CSm:Hid (∀ W u,Below w6.heap.size w6 W->bu W u (A%C)->Calls Tryz.prog 17 #[u,r] W fun e w'=>e=.returned (.bool true)/\Below W.heap.size W w'):=fun W u b hu=>eE W u r _ _ 30 (by omega) (ae HRl) hu (n2.next b)
         have CMd:Hid (∀ W x y,bu W x A->bu W y C->Calls Tryz.prog 38 #[x,y] W fun e w'=>∃ u,e=.returned u/\bu w' u (A%C)/\Below W.heap.size W w'):=fun W x y hx hy=>iR W x y A C 60 (by omega) (ae BA) (ae HCl) (ae HPos) hx hy
         have hb1:=World.block_lt_of_cell? _ _ c1
         have hb2:=World.block_lt_of_cell? _ _ c2
         have HX:Hid (∀ W,Below w6.heap.size w6 W->W.cell? ⟨b1,k3,none⟩=some v/\W.cell? ⟨bx,ox+k3,none⟩=some r):=fun W b=>⟨(b.cell (p:=⟨b1,k3,none⟩) hb1).trans c1,(b.cell (p:=⟨bx,ox+k3,none⟩) hb2).trans c2⟩
         obtain⟨va,vb,vo,vc,vxs,rfl,_⟩:=m1
         obtain⟨ra,rl,rc,rfl⟩:=n2.shape
         generalize vxs.length=vl at *
         have hki3:(k3:Int)<(n:Int):=by omega
         obtain⟨d1,d2⟩:=ae HX _ bw
         clear c1 c2 n2 hpos hCl XR
         go_wp2
         have bl:=bw.trans ((Below.refl _ _).drew)
         go_region_held3 (fun w'=>w'.cell? ⟨b1,k3,none⟩=some (.slice va vl vc)/\w'.cell? ⟨bx,ox+k3,none⟩=some (.slice ra rl rc)) (first|(exact ae HX _ bl)|go_keep) (first
          |(go_at_call 16;with_reducible refine(ae CFa _ bl).mono ?_;rintro e wA ⟨uA,rfl,nA,bA⟩;have bl:=bl.trans (bA.mono bl.size))
          |(go_at_call 16;with_reducible refine(ae CFv _ bl).mono ?_;rintro e wV ⟨uV,rfl,nV,bV⟩;have bl:=bl.trans (bV.mono bl.size);have nA:=nA.next bV)
          |(go_at_call 38;with_reducible refine(ae CMd _ _ _ nA nV).mono ?_;rintro e wM ⟨uM,rfl,nM,bM⟩;have bl:=bl.trans (bM.mono bl.size))
          |(go_at_call 17;with_reducible refine(ae CSm _ _ bl nM).mono ?_;rintro e wS ⟨rfl,bS⟩;have bl:=bl.trans (bS.mono bl.size)))
         have b5:=bl
         go_wp2
         exact⟨⟨k3+1,by omega,by go_num,b5⟩,by simp[intOf];omega⟩
        ·have hki3:¬(k3:Int)<(n:Int):=by omega
         have bl:=(ae HBL).trans (bw.mono (ae HBL).size)
         go_wp2_with fail
         refine(ae CK _ ((ae HT).next bl)).mono ?_
         rintro e wk ⟨rfl,b6⟩
         have bl:=ag bl b6
         clear b6
         go_wp2
         go_ret
         exact⟨rfl,bl⟩
    ·have hki:¬(0:Int)<(n:Int):=by omega
     have bw:=Below.refl w6.heap.size w6
     have CW1:=hide (ae CWa _ bw)
     go_wp2_with fail
     with_reducible refine(ae CW1).mono ?_
     rintro e wz1 ⟨rfl,hw⟩
     obtain rfl:=hw.symm
     clear hw
     go_wp2_with fail
     with_reducible refine(ae CW1).mono ?_
     rintro e wz1 ⟨rfl,hw⟩
     obtain rfl:=hw.symm
     clear hw CW1 CWa
     have R1:=(ae HR1).next bw
     have CW:Hid (∀ j,j<n->Calls Tryz.prog 13 #[us1.getD j undef] w6 fun e w'=>e=.returned (.int .i64 (wl (ns.getD j 0):Int))/\w'=w6):=fun j hj=>dU (R1.each j (by rw[ae HN];exact hj)) (by omega)
     have HCc:Hid (∀ j,j<n->g1=some ⟨b1,0,none⟩/\w6.cell? ⟨b1,0+j,none⟩=some (us1.getD j undef)):=fun j hj=>⟨R1.head (by rw[ae HN];omega),R1.cell j (by rw[ae HN];exact hj)⟩
     have bl:=(ae HBL).trans (bw.mono (ae HBL).size)
     clear R1
     go_wp2
     go_loopw [14] (fun i wq=>∃ k:Nat,k<=n/\i=.int .i64 (k:Int)/\wq=w6) (fun i _=>n-(intOf i).toNat)
     case atStart=>exact⟨0,Nat.zero_le _,rfl,rfl⟩
     case round=>
      obtain⟨k2,hk2,rfl,hw⟩:=hrel
      obtain rfl:=hw.symm
      clear hw
      by_cases h2:k2<n
      ·obtain⟨rfl,ck⟩:=ae HCc k2 h2
       have CWk:=ae CW k2 h2
       obtain⟨v,hv⟩:∃ v,v=us1.getD k2 undef:=⟨_,rfl⟩
       rw[<-hv]at ck CWk
       rw[Nat.zero_add]at ck
       have hki2:(k2:Int)<(n:Int):=by omega
       have hwl:wl (ns.getD k2 0)≠0:=fun e=>by have:=ae HZ k2 h2;have:=ay.1 e;omega
       generalize wl (ns.getD k2 0)=qq at *
       have hqi:((qq:Int)==0)=false:=by simp;omega
       have CWk:=hide CWk
       clear hv hwl
       go_wp2_with fail
       refine(ae CWk).mono ?_
       rintro e wy ⟨rfl,hw⟩
       obtain rfl:=hw.symm
       clear hw
       go_wp2
       exact⟨⟨k2+1,by omega,by go_num,trivial⟩,by simp[intOf];omega⟩
      ·have hki2:¬(k2:Int)<(n:Int):=by omega
       clear CW HCc
       go_wp2
       go_loopw [15] (fun i wq=>∃ k:Nat,k<=n/\i=.int .i64 (k:Int)/\Below w6.heap.size w6 wq) (fun i _=>n-(intOf i).toNat)
       case atStart=>exact⟨0,Nat.zero_le _,rfl,bw⟩
       case round=>
        clear bw hki2 bl
        obtain⟨k3,hk3,rfl,bw⟩:=hrel
        by_cases h3:k3<n
        ·obtain rfl:=(ae HR1).head (by rw[ae HN];omega)
         obtain⟨rfl,hbx⟩:=hxh (by omega)
         have c1:=(ae HR1).cell k3 (by rw[ae HN];exact h3)
         have m1:=(ae HR1).each k3 (by rw[ae HN];exact h3)
         obtain⟨c2,n2⟩:=XR k3 h3
         have hpos:=(ae HZ) k3 h3
         rw[Nat.zero_add]at c1
         obtain⟨v,hv⟩:∃ v,v=us1.getD k3 undef:=⟨_,rfl⟩
         obtain⟨r,hr⟩:∃ r,r=rs k3:=⟨_,rfl⟩
         obtain⟨C,hC⟩:∃ C,C=ns.getD k3 0:=⟨_,rfl⟩
         rw[<-hv]at c1 m1
         simp only[<-hC]at m1 n2 hpos
         rw[<-hr]at c2 n2
         clear hv hr hC
         have hCl:=m1.lt
         have HCl:Hid (C<4294967296^60):=by have:=aP hCl (q:=30) (by omega);rw[fo]at this;exact this
         have HRl:Hid (A%C<18446744073709551616^30):=Nat.lt_of_le_of_lt (Nat.mod_le _ _) (ae LA)
         have HPos:=hide hpos
         have CFa:Hid (∀ W,Below w6.heap.size w6 W->Calls Tryz.prog 16 #[.slice ga na ca] W fun e w'=>∃ u,e=.returned u/\bu w' u A/\Below W.heap.size W w'):=fun W b=>fO ((ae HMA).next b) (by omega)
         have CFv:Hid (∀ W,Below w6.heap.size w6 W->Calls Tryz.prog 16 #[v] W fun e w'=>∃ u,e=.returned u/\bu w' u C/\Below W.heap.size W w'):=fun W b=>fO (m1.next b) (by omega)
         have CSm:Hid (∀ W u,Below w6.heap.size w6 W->bu W u (A%C)->Calls Tryz.prog 17 #[u,r] W fun e w'=>e=.returned (.bool true)/\Below W.heap.size W w'):=fun W u b hu=>eE W u r _ _ 30 (by omega) (ae HRl) hu (n2.next b)
         have CMd:Hid (∀ W x y,bu W x A->bu W y C->Calls Tryz.prog 38 #[x,y] W fun e w'=>∃ u,e=.returned u/\bu w' u (A%C)/\Below W.heap.size W w'):=fun W x y hx hy=>iR W x y A C 60 (by omega) (ae BA) (ae HCl) (ae HPos) hx hy
         have hb1:=World.block_lt_of_cell? _ _ c1
         have hb2:=World.block_lt_of_cell? _ _ c2
         have HX:Hid (∀ W,Below w6.heap.size w6 W->W.cell? ⟨b1,k3,none⟩=some v/\W.cell? ⟨bx,ox+k3,none⟩=some r):=fun W b=>⟨(b.cell (p:=⟨b1,k3,none⟩) hb1).trans c1,(b.cell (p:=⟨bx,ox+k3,none⟩) hb2).trans c2⟩
         obtain⟨va,vb,vo,vc,vxs,rfl,_⟩:=m1
         obtain⟨ra,rl,rc,rfl⟩:=n2.shape
         generalize vxs.length=vl at *
         have hki3:(k3:Int)<(n:Int):=by omega
         obtain⟨d1,d2⟩:=ae HX _ bw
         clear c1 c2 n2 hpos hCl XR
         go_wp2
         have bl:=bw.trans ((Below.refl _ _).drew)
         go_region_held3 (fun w'=>w'.cell? ⟨b1,k3,none⟩=some (.slice va vl vc)/\w'.cell? ⟨bx,ox+k3,none⟩=some (.slice ra rl rc)) (first|(exact ae HX _ bl)|go_keep) (first
          |(go_at_call 16;with_reducible refine(ae CFa _ bl).mono ?_;rintro e wA ⟨uA,rfl,nA,bA⟩;have bl:=bl.trans (bA.mono bl.size))
          |(go_at_call 16;with_reducible refine(ae CFv _ bl).mono ?_;rintro e wV ⟨uV,rfl,nV,bV⟩;have bl:=bl.trans (bV.mono bl.size);have nA:=nA.next bV)
          |(go_at_call 38;with_reducible refine(ae CMd _ _ _ nA nV).mono ?_;rintro e wM ⟨uM,rfl,nM,bM⟩;have bl:=bl.trans (bM.mono bl.size))
          |(go_at_call 17;with_reducible refine(ae CSm _ _ bl nM).mono ?_;rintro e wS ⟨rfl,bS⟩;have bl:=bl.trans (bS.mono bl.size)))
         have b5:=bl
         go_wp2
         exact⟨⟨k3+1,by omega,by go_num,b5⟩,by simp[intOf];omega⟩
        ·have hki3:¬(k3:Int)<(n:Int):=by omega
         have bl:=(ae HBL).trans (bw.mono (ae HBL).size)
         go_wp2_with fail
         refine(ae CK _ ((ae HT).next bl)).mono ?_
         rintro e wk ⟨rfl,b6⟩
         have bl:=ag bl b6
         clear b6
         go_wp2
         go_ret
         exact⟨rfl,bl⟩
  case inr=>
   have wA0:wl A≠0:=fun e=>by have:=ay.1 e;omega
   obtain⟨q,hq⟩:∃ q:Bool,q=true↔∀ j,j<n->ns.getD j 0%A=0:=by
    by_cases h:∀ j,j<n->ns.getD j 0%A=0
    ·exact⟨true,by simp;exact h⟩
    ·exact⟨false,by simp;simpa using h⟩
   have CM:=hide (ae HV w5 gv gr gd gm gt gk ge g s1 0 m1 T _ A g3 b3 0 c3 n 8 us3 ns q E ((ae HT).next bl) sa (by omega) (by decide) (by decide) (nw mA (by omega)) hA0 (by omega) h3n (by omega) hl3.2 (by omega) R3 hq)
   go_wp2_with fail
   with_reducible refine(ae CM).mono ?_
   rintro e w6 ⟨s2,m2,rfl,E2,_,o⟩
   have R1:=E.rowsN o R1
   have mA:=E.inL o mA
   have XR:=XR.eng E o lg
   have bl:=bl.trans (o.below (B:=w.heap.size) bl.size (fun k hk=>by rw[hk];exact hg))
   clear o E2 E CM HV HVN R3 hl3 sa sb
   have HMA:=hide mA
   have CWa:Hid (∀ W,Below w6.heap.size w6 W->Calls Tryz.prog 13 #[.slice ga na ca] W fun e w'=>e=.returned (.int .i64 (wl A:Int))/\w'=W):=fun W b=>dU ((ae HMA).next b) (by omega)
   generalize hwa:wl A=wa at *
   have CW0:=hide (ae CWa _ (Below.refl _ _))
   have HR1:=hide R1
   have HBL:=hide bl
   have HQ:=hide hq
   have HA0:=hide hA0
   have HWa:=hide wA0
   clear mA R1 bl hq hA0 hwa
   have hwi:(0:Int)<(wa:Int):=by omega
   have hwe:((wa:Int)==0)=false:=by simp;omega
   go_wp2_with fail
   with_reducible refine(ae CW0).mono ?_
   rintro e wz ⟨rfl,hw⟩
   obtain rfl:=hw.symm
   clear hw CW0
   go_wp2
   go_loopw [12,13] (fun ev i wr=>∃(k:Nat) (bv:Bool),k<=n/\i=.int .i64 (k:Int)/\ev=.bool bv/\Hid (bv=true↔∀ j,j<k->ns.getD j 0%A=0)/\Below w6.heap.size w6 wr) (fun _ i _=>n-(intOf i).toNat)
   case atStart=>exact⟨0,true,Nat.zero_le _,rfl,by rw[decide_eq_true (show 0<wa by omega)],⟨fun _ j hj=>absurd hj (by omega),fun _=>rfl⟩,Below.refl _ _⟩
   case round=>
    obtain⟨k,bv,hk,rfl,rfl,hI,bw⟩:=hrel
    by_cases h1:k<n
    ·have hki:(k:Int)<(n:Int):=by omega
     cases bv
     case false=>
      obtain rfl:q=false:=by
       cases q
       ·rfl
       ·exact absurd (hI.out.2 (fun j hj=>(ae HQ).1 rfl j (by omega))) (by simp)
      clear hI
      have CW1:=hide (ae CWa _ bw)
      go_wp2_with fail
      with_reducible refine(ae CW1).mono ?_
      rintro e wz1 ⟨rfl,hw⟩
      obtain rfl:=hw.symm
      clear hw
      go_wp2_with fail
      with_reducible refine(ae CW1).mono ?_
      rintro e wz1 ⟨rfl,hw⟩
      obtain rfl:=hw.symm
      clear hw CW1 CWa
      have R1:=(ae HR1).next bw
      have CW:Hid (∀ j,j<n->Calls Tryz.prog 13 #[us1.getD j undef] wr fun e w'=>e=.returned (.int .i64 (wl (ns.getD j 0):Int))/\w'=wr):=fun j hj=>dU (R1.each j (by rw[ae HN];exact hj)) (by omega)
      have HCc:Hid (∀ j,j<n->g1=some ⟨b1,0,none⟩/\wr.cell? ⟨b1,0+j,none⟩=some (us1.getD j undef)):=fun j hj=>⟨R1.head (by rw[ae HN];omega),R1.cell j (by rw[ae HN];exact hj)⟩
      have bl:=(ae HBL).trans (bw.mono (ae HBL).size)
      clear R1
      go_wp2
      go_loopw [14] (fun i wq=>∃ k:Nat,k<=n/\i=.int .i64 (k:Int)/\wq=wr) (fun i _=>n-(intOf i).toNat)
      case atStart=>exact⟨0,Nat.zero_le _,rfl,rfl⟩
      case round=>
       obtain⟨k2,hk2,rfl,hw⟩:=hrel
       obtain rfl:=hw.symm
       clear hw
       by_cases h2:k2<n
       ·obtain⟨rfl,ck⟩:=ae HCc k2 h2
        have CWk:=ae CW k2 h2
        obtain⟨v,hv⟩:∃ v,v=us1.getD k2 undef:=⟨_,rfl⟩
        rw[<-hv]at ck CWk
        rw[Nat.zero_add]at ck
        have hki2:(k2:Int)<(n:Int):=by omega
        have hwl:wl (ns.getD k2 0)≠0:=fun e=>by have:=ae HZ k2 h2;have:=ay.1 e;omega
        generalize wl (ns.getD k2 0)=qq at *
        have hqi:((qq:Int)==0)=false:=by simp;omega
        have CWk:=hide CWk
        clear hv hwl
        go_wp2_with fail
        refine(ae CWk).mono ?_
        rintro e wy ⟨rfl,hw⟩
        obtain rfl:=hw.symm
        clear hw
        go_wp2
        exact⟨⟨k2+1,by omega,by go_num,trivial⟩,by simp[intOf];omega⟩
       ·have hki2:¬(k2:Int)<(n:Int):=by omega
        clear CW HCc
        go_wp2
        go_loopw [15] (fun i wq=>∃ k:Nat,k<=n/\i=.int .i64 (k:Int)/\Below w6.heap.size w6 wq) (fun i _=>n-(intOf i).toNat)
        case atStart=>exact⟨0,Nat.zero_le _,rfl,bw⟩
        case round=>
         clear bw hki2 bl
         obtain⟨k3,hk3,rfl,bw⟩:=hrel
         by_cases h3:k3<n
         ·obtain rfl:=(ae HR1).head (by rw[ae HN];omega)
          obtain⟨rfl,hbx⟩:=hxh (by omega)
          have c1:=(ae HR1).cell k3 (by rw[ae HN];exact h3)
          have m1:=(ae HR1).each k3 (by rw[ae HN];exact h3)
          obtain⟨c2,n2⟩:=XR k3 h3
          have hpos:=(ae HZ) k3 h3
          rw[Nat.zero_add]at c1
          obtain⟨v,hv⟩:∃ v,v=us1.getD k3 undef:=⟨_,rfl⟩
          obtain⟨r,hr⟩:∃ r,r=rs k3:=⟨_,rfl⟩
          obtain⟨C,hC⟩:∃ C,C=ns.getD k3 0:=⟨_,rfl⟩
          rw[<-hv]at c1 m1
          simp only[<-hC]at m1 n2 hpos
          rw[<-hr]at c2 n2
          clear hv hr hC
          have hCl:=m1.lt
          have HCl:Hid (C<4294967296^60):=by have:=aP hCl (q:=30) (by omega);rw[fo]at this;exact this
          have HRl:Hid (A%C<18446744073709551616^30):=Nat.lt_of_le_of_lt (Nat.mod_le _ _) (ae LA)
          have HPos:=hide hpos
          have CFa:Hid (∀ W,Below w6.heap.size w6 W->Calls Tryz.prog 16 #[.slice ga na ca] W fun e w'=>∃ u,e=.returned u/\bu w' u A/\Below W.heap.size W w'):=fun W b=>fO ((ae HMA).next b) (by omega)
          have CFv:Hid (∀ W,Below w6.heap.size w6 W->Calls Tryz.prog 16 #[v] W fun e w'=>∃ u,e=.returned u/\bu w' u C/\Below W.heap.size W w'):=fun W b=>fO (m1.next b) (by omega)
          have CSm:Hid (∀ W u,Below w6.heap.size w6 W->bu W u (A%C)->Calls Tryz.prog 17 #[u,r] W fun e w'=>e=.returned (.bool true)/\Below W.heap.size W w'):=fun W u b hu=>eE W u r _ _ 30 (by omega) (ae HRl) hu (n2.next b)
          have CMd:Hid (∀ W x y,bu W x A->bu W y C->Calls Tryz.prog 38 #[x,y] W fun e w'=>∃ u,e=.returned u/\bu w' u (A%C)/\Below W.heap.size W w'):=fun W x y hx hy=>iR W x y A C 60 (by omega) (ae BA) (ae HCl) (ae HPos) hx hy
          have hb1:=World.block_lt_of_cell? _ _ c1
          have hb2:=World.block_lt_of_cell? _ _ c2
          have HX:Hid (∀ W,Below w6.heap.size w6 W->W.cell? ⟨b1,k3,none⟩=some v/\W.cell? ⟨bx,ox+k3,none⟩=some r):=fun W b=>⟨(b.cell (p:=⟨b1,k3,none⟩) hb1).trans c1,(b.cell (p:=⟨bx,ox+k3,none⟩) hb2).trans c2⟩
          obtain⟨va,vb,vo,vc,vxs,rfl,_⟩:=m1
          obtain⟨ra,rl,rc,rfl⟩:=n2.shape
          generalize vxs.length=vl at *
          have hki3:(k3:Int)<(n:Int):=by omega
          obtain⟨d1,d2⟩:=ae HX _ bw
          clear c1 c2 n2 hpos hCl XR
          go_wp2
          have bl:=bw.trans ((Below.refl _ _).drew)
          go_region_held3 (fun w'=>w'.cell? ⟨b1,k3,none⟩=some (.slice va vl vc)/\w'.cell? ⟨bx,ox+k3,none⟩=some (.slice ra rl rc)) (first|(exact ae HX _ bl)|go_keep) (first
           |(go_at_call 16;with_reducible refine(ae CFa _ bl).mono ?_;rintro e wA ⟨uA,rfl,nA,bA⟩;have bl:=bl.trans (bA.mono bl.size))
           |(go_at_call 16;with_reducible refine(ae CFv _ bl).mono ?_;rintro e wV ⟨uV,rfl,nV,bV⟩;have bl:=bl.trans (bV.mono bl.size);have nA:=nA.next bV)
           |(go_at_call 38;with_reducible refine(ae CMd _ _ _ nA nV).mono ?_;rintro e wM ⟨uM,rfl,nM,bM⟩;have bl:=bl.trans (bM.mono bl.size))
           |(go_at_call 17;with_reducible refine(ae CSm _ _ bl nM).mono ?_;rintro e wS ⟨rfl,bS⟩;have bl:=bl.trans (bS.mono bl.size)))
          have b5:=bl
          go_wp2
          exact⟨⟨k3+1,by omega,by go_num,b5⟩,by simp[intOf];omega⟩
         ·have hki3:¬(k3:Int)<(n:Int):=by omega
          have bl:=(ae HBL).trans (bw.mono (ae HBL).size)
          go_wp2_with fail
          refine(ae CK _ ((ae HT).next bl)).mono ?_
          rintro e wk ⟨rfl,b6⟩
          have bl:=ag bl b6
          clear b6
          go_wp2
          go_ret
          exact⟨rfl,bl⟩
     case true=>
      have hx:=hI.out.1 rfl
      obtain rfl:=(ae HR1).head (by rw[ae HN];omega)
      have c1:=(ae HR1).cell k (by rw[ae HN];exact h1)
      have m1:=(ae HR1).each k (by rw[ae HN];exact h1)
      rw[Nat.zero_add]at c1
      obtain⟨v,hv⟩:∃ v,v=us1.getD k undef:=⟨_,rfl⟩
      obtain⟨C,hC⟩:∃ C,C=ns.getD k 0:=⟨_,rfl⟩
      rw[<-hv]at c1 m1
      rw[<-hC]at m1
      have hI2:Hid (decide (C%A=0)=true↔∀ j,j<k+1->ns.getD j 0%A=0):=by
       refine⟨fun h j hj=>?_,fun h=>?_⟩
       ·by_cases e:j=k
        ·rw[e, <-hC];exact of_decide_eq_true h
        ·exact hx j (by omega)
       ·have:=h k (by omega)
        rw[<-hC]at this
        exact decide_eq_true this
      have hCl:=m1.lt
      have HCl:Hid (C<4294967296^60):=by have:=aP hCl (q:=30) (by omega);rw[fo]at this;exact this
      have CFv:Hid (∀ W,Below w6.heap.size w6 W->Calls Tryz.prog 16 #[v] W fun e w'=>∃ u,e=.returned u/\bu w' u C/\Below W.heap.size W w'):=fun W b=>fO (m1.next b) (by omega)
      have CFa:Hid (∀ W,Below w6.heap.size w6 W->Calls Tryz.prog 16 #[.slice ga na ca] W fun e w'=>∃ u,e=.returned u/\bu w' u A/\Below W.heap.size W w'):=fun W b=>fO ((ae HMA).next b) (by omega)
      have CMd:Hid (∀ W x y,bu W x C->bu W y A->Calls Tryz.prog 38 #[x,y] W fun e w'=>∃ u,e=.returned u/\bu w' u (C%A)/\Below W.heap.size W w'):=fun W x y hx hy=>iR W x y C A 60 (by omega) (ae HCl) (ae BA) (ae HA0) hx hy
      have CZr:Hid (∀ W x,bu W x (C%A)->Calls Tryz.prog 33 #[x] W fun e w'=>e=.returned (.bool (decide (C%A=0)))/\w'=W):=fun W x hx=>iS W x _ _ rfl hx
      have hb1:=World.block_lt_of_cell? _ _ c1
      have d1:=(bw.cell (p:=⟨b1,k,none⟩) hb1).trans c1
      obtain⟨va,vb,vo,vc,vxs,rfl,_⟩:=m1
      generalize vxs.length=vl at *
      generalize decide (C%A=0)=bz at *
      generalize C%A=CA at *
      clear hI hx hv hC hCl c1 CWa
      go_wp2_with fail
      with_reducible refine(ae CFv _ bw).mono ?_
      rintro e wf1 ⟨u1,rfl,n1,b⟩
      have bw:=bw.trans (b.mono bw.size)
      clear b d1
      go_wp2_with fail
      with_reducible refine(ae CFa _ bw).mono ?_
      rintro e wf2 ⟨u2,rfl,n2,b⟩
      have bw:=bw.trans (b.mono bw.size)
      have n1:=n1.next b
      clear b
      go_wp2_with fail
      with_reducible refine(ae CMd _ _ _ n1 n2).mono ?_
      rintro e wf3 ⟨u3,rfl,n3,b⟩
      have bw:=bw.trans (b.mono bw.size)
      clear b n1 n2
      go_wp2_with fail
      with_reducible refine(ae CZr _ _ n3).mono ?_
      rintro e wf4 ⟨rfl,hw⟩
      obtain rfl:=hw.symm
      clear hw n3
      go_wp2
      exact⟨⟨k+1,bz,by omega,by go_num,rfl,hI2,bw⟩,by simp[intOf];omega⟩
    ·have hki:¬(k:Int)<(n:Int):=by omega
     obtain rfl:n=k:=by omega
     obtain rfl:bv=q:=Bool.eq_iff_iff.2 (hI.out.trans (ae HQ).symm)
     clear hI
     have hqq:(bv !=bv)=false:=by cases bv<;>rfl
     have CW1:=hide (ae CWa _ bw)
     go_wp2_with fail
     with_reducible refine(ae CW1).mono ?_
     rintro e wz1 ⟨rfl,hw⟩
     obtain rfl:=hw.symm
     clear hw
     go_wp2_with fail
     with_reducible refine(ae CW1).mono ?_
     rintro e wz1 ⟨rfl,hw⟩
     obtain rfl:=hw.symm
     clear hw CW1 CWa
     have R1:=(ae HR1).next bw
     have CW:Hid (∀ j,j<n->Calls Tryz.prog 13 #[us1.getD j undef] wr fun e w'=>e=.returned (.int .i64 (wl (ns.getD j 0):Int))/\w'=wr):=fun j hj=>dU (R1.each j (by rw[ae HN];exact hj)) (by omega)
     have HCc:Hid (∀ j,j<n->g1=some ⟨b1,0,none⟩/\wr.cell? ⟨b1,0+j,none⟩=some (us1.getD j undef)):=fun j hj=>⟨R1.head (by rw[ae HN];omega),R1.cell j (by rw[ae HN];exact hj)⟩
     have bl:=(ae HBL).trans (bw.mono (ae HBL).size)
     clear R1
     go_wp2
     go_loopw [14] (fun i wq=>∃ k:Nat,k<=n/\i=.int .i64 (k:Int)/\wq=wr) (fun i _=>n-(intOf i).toNat)
     case atStart=>exact⟨0,Nat.zero_le _,rfl,rfl⟩
     case round=>
      obtain⟨k2,hk2,rfl,hw⟩:=hrel
      obtain rfl:=hw.symm
      clear hw
      by_cases h2:k2<n
      ·obtain⟨rfl,ck⟩:=ae HCc k2 h2
       have CWk:=ae CW k2 h2
       obtain⟨v,hv⟩:∃ v,v=us1.getD k2 undef:=⟨_,rfl⟩
       rw[<-hv]at ck CWk
       rw[Nat.zero_add]at ck
       have hki2:(k2:Int)<(n:Int):=by omega
       have hwl:wl (ns.getD k2 0)≠0:=fun e=>by have:=ae HZ k2 h2;have:=ay.1 e;omega
       generalize wl (ns.getD k2 0)=qq at *
       have hqi:((qq:Int)==0)=false:=by simp;omega
       have CWk:=hide CWk
       clear hv hwl
       go_wp2_with fail
       refine(ae CWk).mono ?_
       rintro e wy ⟨rfl,hw⟩
       obtain rfl:=hw.symm
       clear hw
       go_wp2
       exact⟨⟨k2+1,by omega,by go_num,trivial⟩,by simp[intOf];omega⟩
      ·have hki2:¬(k2:Int)<(n:Int):=by omega
       clear CW HCc
       go_wp2
       go_loopw [15] (fun i wq=>∃ k:Nat,k<=n/\i=.int .i64 (k:Int)/\Below w6.heap.size w6 wq) (fun i _=>n-(intOf i).toNat)
       case atStart=>exact⟨0,Nat.zero_le _,rfl,bw⟩
       case round=>
        clear bw hki2 bl
        obtain⟨k3,hk3,rfl,bw⟩:=hrel
        by_cases h3:k3<n
        ·obtain rfl:=(ae HR1).head (by rw[ae HN];omega)
         obtain⟨rfl,hbx⟩:=hxh (by omega)
         have c1:=(ae HR1).cell k3 (by rw[ae HN];exact h3)
         have m1:=(ae HR1).each k3 (by rw[ae HN];exact h3)
         obtain⟨c2,n2⟩:=XR k3 h3
         have hpos:=(ae HZ) k3 h3
         rw[Nat.zero_add]at c1
         obtain⟨v,hv⟩:∃ v,v=us1.getD k3 undef:=⟨_,rfl⟩
         obtain⟨r,hr⟩:∃ r,r=rs k3:=⟨_,rfl⟩
         obtain⟨C,hC⟩:∃ C,C=ns.getD k3 0:=⟨_,rfl⟩
         rw[<-hv]at c1 m1
         simp only[<-hC]at m1 n2 hpos
         rw[<-hr]at c2 n2
         clear hv hr hC
         have hCl:=m1.lt
         have HCl:Hid (C<4294967296^60):=by have:=aP hCl (q:=30) (by omega);rw[fo]at this;exact this
         have HRl:Hid (A%C<18446744073709551616^30):=Nat.lt_of_le_of_lt (Nat.mod_le _ _) (ae LA)
         have HPos:=hide hpos
         have CFa:Hid (∀ W,Below w6.heap.size w6 W->Calls Tryz.prog 16 #[.slice ga na ca] W fun e w'=>∃ u,e=.returned u/\bu w' u A/\Below W.heap.size W w'):=fun W b=>fO ((ae HMA).next b) (by omega)
         have CFv:Hid (∀ W,Below w6.heap.size w6 W->Calls Tryz.prog 16 #[v] W fun e w'=>∃ u,e=.returned u/\bu w' u C/\Below W.heap.size W w'):=fun W b=>fO (m1.next b) (by omega)
         have CSm:Hid (∀ W u,Below w6.heap.size w6 W->bu W u (A%C)->Calls Tryz.prog 17 #[u,r] W fun e w'=>e=.returned (.bool true)/\Below W.heap.size W w'):=fun W u b hu=>eE W u r _ _ 30 (by omega) (ae HRl) hu (n2.next b)
         have CMd:Hid (∀ W x y,bu W x A->bu W y C->Calls Tryz.prog 38 #[x,y] W fun e w'=>∃ u,e=.returned u/\bu w' u (A%C)/\Below W.heap.size W w'):=fun W x y hx hy=>iR W x y A C 60 (by omega) (ae BA) (ae HCl) (ae HPos) hx hy
         have hb1:=World.block_lt_of_cell? _ _ c1
         have hb2:=World.block_lt_of_cell? _ _ c2
         have HX:Hid (∀ W,Below w6.heap.size w6 W->W.cell? ⟨b1,k3,none⟩=some v/\W.cell? ⟨bx,ox+k3,none⟩=some r):=fun W b=>⟨(b.cell (p:=⟨b1,k3,none⟩) hb1).trans c1,(b.cell (p:=⟨bx,ox+k3,none⟩) hb2).trans c2⟩
         obtain⟨va,vb,vo,vc,vxs,rfl,_⟩:=m1
         obtain⟨ra,rl,rc,rfl⟩:=n2.shape
         generalize vxs.length=vl at *
         have hki3:(k3:Int)<(n:Int):=by omega
         obtain⟨d1,d2⟩:=ae HX _ bw
         clear c1 c2 n2 hpos hCl XR
         go_wp2
         have bl:=bw.trans ((Below.refl _ _).drew)
         go_region_held3 (fun w'=>w'.cell? ⟨b1,k3,none⟩=some (.slice va vl vc)/\w'.cell? ⟨bx,ox+k3,none⟩=some (.slice ra rl rc)) (first|(exact ae HX _ bl)|go_keep) (first
          |(go_at_call 16;with_reducible refine(ae CFa _ bl).mono ?_;rintro e wA ⟨uA,rfl,nA,bA⟩;have bl:=bl.trans (bA.mono bl.size))
          |(go_at_call 16;with_reducible refine(ae CFv _ bl).mono ?_;rintro e wV ⟨uV,rfl,nV,bV⟩;have bl:=bl.trans (bV.mono bl.size);have nA:=nA.next bV)
          |(go_at_call 38;with_reducible refine(ae CMd _ _ _ nA nV).mono ?_;rintro e wM ⟨uM,rfl,nM,bM⟩;have bl:=bl.trans (bM.mono bl.size))
          |(go_at_call 17;with_reducible refine(ae CSm _ _ bl nM).mono ?_;rintro e wS ⟨rfl,bS⟩;have bl:=bl.trans (bS.mono bl.size)))
         have b5:=bl
         go_wp2
         exact⟨⟨k3+1,by omega,by go_num,b5⟩,by simp[intOf];omega⟩
        ·have hki3:¬(k3:Int)<(n:Int):=by omega
         have bl:=(ae HBL).trans (bw.mono (ae HBL).size)
         go_wp2_with fail
         refine(ae CK _ ((ae HT).next bl)).mono ?_
         rintro e wk ⟨rfl,b6⟩
         have bl:=ag bl b6
         clear b6
         go_wp2
         go_ret
         exact⟨rfl,bl⟩
end Go.Proofs.YtpdpnomocbehkaaGreatDoor
