/- byMany of divs: a division by a row of two words at least. -/
import Derived.Test.YtgcnhfgpflncaaaGreatDoorB39
import Derived.Test.YtgcnhfgpflncaaaGreatDoorB41
import Derived.Test.YtgcnhfgpflncaaaGreatDoorB4
import Derived.Test.YtgcnhfgpflncaaaGreatDoorB33
import Derived.Stop.RegionWithIn
import Derived.Test.YtgcnhfgpflncaaaGreatDoorB36
namespace Go.Proofs.YtgcnhfgpflncaaaGreatDoor
open Go.RowKit Go.Shelf
attribute [local go_sem] Oper.semAt_some
set_option linter.unusedSimpArgs false
set_option maxRecDepth 100000 in
set_option maxHeartbeats 3200000 in
theorem ym(w:World)(ga:Option Addr)(ba oa ca n:Nat)(us:List Nat)(gb:Option Addr)(bb ob cb m M:Nat)(vs:List Nat)
  (hA:Rep w ga ba oa ca us) (cA:cn us) (hal:us.length=n) (hB:Rep w gb bb ob cb vs) (cB:cn vs) (hbl:vs.length=M) (hM:M=m+2) (hmn:M<=n) (hn:n<=16384):
  Calls Tryz.prog 90 #[.slice ga n ca,.slice gb M cb] w fun e w'=>∃ q r gq gr,e=.returned (.tuple #[q,r])/\aS gq (gq+1) w' q (af us/af vs)/\aS gr (gr+1) w' r (af us%af vs)/\(gq≠gr/\w.heap.size<=gq/\w.heap.size<=gr)/\Below w.heap.size w w':=by
 obtain rfl:=hB.head (by omega)
 obtain⟨P0,hP0⟩:∃ P0,w.heap.size=P0:=⟨_,rfl⟩
 obtain⟨m1,hm1⟩:∃ m1,m1=m+1:=⟨_,rfl⟩
 obtain⟨t,ht⟩:∃ t,t=vs.getD m1 0:=⟨_,rfl⟩
 have ht0:0<t:=by have:=cB.2 (by omega);rw[hbl,show M-1=m1 by omega]at this;omega
 have ht1:t<18446744073709551616:=by rw[ht];exact cB.1 m1
 have b1:=hB.cell m1 (by omega)
 rw[<-ht]at b1
 have HA:=hide hA
 have HB:=hide hB
 have CLz:=hide (fun W=>yY (t:Int) W (by omega) (by omega))
 have CSb:Hid (∀ W (s:Nat),s<=63->Below w.heap.size w W->Calls Tryz.prog 57 #[.slice (some ⟨bb,ob,none⟩) M cb,.int .i64 (s:Int)] W fun e w'=>∃ r,e=.returned r/\ah W.heap.size w' r (af vs*2^s)/\Below W.heap.size W w'):=fun W s hs b=>
  ir W _ (s:Int) (af vs) s (by omega) ⟨_,_,_,_,vs,by rw[hbl],(hB.next b),cB.1,rfl,by omega⟩
 have CSa:Hid (∀ W (s:Nat),s<=63->Below w.heap.size w W->Calls Tryz.prog 57 #[.slice ga n ca,.int .i64 (s:Int)] W fun e w'=>∃ r,e=.returned r/\ah W.heap.size w' r (af us*2^s)/\Below W.heap.size W w'):=fun W s hs b=>
  ir W _ (s:Int) (af us) s (by omega) ⟨_,_,_,_,us,by rw[hal],(hA.next b),cA.1,rfl,by omega⟩
 have i1:(M:Int)-1=(m1:Int):=by omega
 have k1:IntKind.i64.wrap (m1:Int)=(m1:Int):=by rw[IntKind.wrap_i64];omega
 have j1:m1<M:=by omega
 have bx:Below w.heap.size w ((w.alloc (.cells #[.slice none 0 0] 29)).alloc (.cells #[.int .i64 (M:Int)] 3)):=((Below.refl _ w).alloc (Nat.le_refl _) _).alloc (by simp) _
 have xq:=(Boxed.new w 29 (.slice none 0 0)).alloc (.cells #[.int .i64 (M:Int)] 3)
 have xm:=Boxed.new (w.alloc (.cells #[.slice none 0 0] 29)) 3 (.int .i64 (M:Int))
 rw[World.size_alloc,hP0]at xm
 rw[hP0]at xq
 obtain⟨W1,hW1⟩:∃ W1,(w.alloc (.cells #[.slice none 0 0] 29)).alloc (.cells #[.int .i64 (M:Int)] 3)=W1:=⟨_,rfl⟩
 rw[hW1]at bx xq xm
 replace b1:=(bx.cell (p:=⟨bb,ob+m1,none⟩) (World.block_lt_of_cell? _ _ b1)).trans b1
 have cm:=xm.cell
 have BX:=hide bx
 have HM:=hide hM
 have HM1:=hide hm1
 have HT:=hide ht
 have Mb:M<=16384:=by omega
 clear hM hm1 ht hA hB
 obtain⟨n1,hn1⟩:∃ n1,n1=n+1:=⟨_,rfl⟩
 obtain⟨nd,hnd⟩:∃ nd,nd=n-M:=⟨_,rfl⟩
 obtain⟨N,hN⟩:∃ N,N=nd+1:=⟨_,rfl⟩
 have en1:(n:Int)+1=(n1:Int):=by omega
 have en2:IntKind.i64.wrap (n1:Int)=(n1:Int):=by rw[IntKind.wrap_i64];omega
 have en3:(n:Int)-(M:Int)=(nd:Int):=by omega
 have en4:IntKind.i64.wrap (nd:Int)=(nd:Int):=by rw[IntKind.wrap_i64];omega
 have en5:(nd:Int)+1=(N:Int):=by omega
 have en6:IntKind.i64.wrap (N:Int)=(N:Int):=by rw[IntKind.wrap_i64];omega
 have hmk1:=bX n1 n1 (n1:Int) rfl rfl (by omega)
 have hmk2:=bX N N (N:Int) rfl rfl (by omega)
 have HN1:=hide hn1
 have HND:=hide hnd
 have HN:=hide hN
 have Nb:N<=16384/\0<N/\n1<=16385:=by omega
 clear hn1 hnd hN
 refine(callsIn_wide (n:=4)).1 ?_
 refine callsIn_of_wp_marks Tryz.func90 rfl trivial ?_ rfl
 simp only[Tryz.ntmps90,List.size_toArray,List.length_cons,List.length_nil,Nat.reduceAdd,Nat.reduceSub,Array.replicate_succ,Array.replicate_zero,List.push_toArray,List.append_toArray,List.nil_append,List.cons_append]
 gi_wp2_with (refine⟨trivial,?_⟩;gi_at_call 96;refine(callsIn_wide.2 (ae CLz _)).mono ?_;rintro e W2 ⟨s,rfl,hs,hs1,hs2,hw⟩;obtain rfl:=hw.symm;clear hw)
 have HS1:=hide hs1
 have HS2:=hide hs2
 clear hs1 hs2
 refine⟨trivial,?_⟩
 refine(callsIn_wide.2 (ae CSb _ s hs bx)).mono ?_
 rintro e W3 ⟨rd,rfl,nd,b3⟩
 have cm:=(cQ xm b3).cell
 obtain⟨gd,bd,cd,ds,rfl,rD,cD,vD,lD⟩:=nd.rep
 obtain⟨ldd,htd⟩:=rC (m:=m1) cB (by rw[hbl,ae HM,ae HM1]) cD hs (by have:=ae HS1;rw[ae HT]at this;simpa using this) (by have:=ae HS2;rw[ae HT]at this;simpa using this) vD
 replace ldd:ds.length=M:=by rw[ldd,ae HM1,ae HM]
 rw[ldd]
 obtain rfl:=rD.head (by omega)
 obtain⟨v,hv⟩:∃ v,v=kF (ds.getD (m+1) 0*18446744073709551616+ds.getD m 0):=⟨_,rfl⟩
 have CD:=hide (qC W3 _ bd 0 cd m M v ds ldd (ae HM) (by omega) rD cD.1 (by rw[ae HM1]at htd;exact htd) hv)
 have RD:=hide rD
 have HV:=hide hv
 have LD:=hide (lD (by omega))
 clear rD hv nd lD
 gi_wp2
 refine⟨trivial,?_⟩
 refine(callsIn_wide.2 (ae CD)).mono ?_
 rintro e W4 ⟨rfl,b4⟩
 obtain⟨P1,hP1⟩:∃ P1,W4.heap.size=P1:=⟨_,rfl⟩
 obtain⟨W5,hW5⟩:∃ W5,((W4.alloc (.cells #[.slice (some ⟨bd,0,none⟩) M cd,.int .u64 (v:Int)] 139)).alloc (.cells (aF n1).toArray 41)).alloc (.cells #[.slice (some ⟨P1+1,0,none⟩) n1 n1] 29)=W5:=⟨_,rfl⟩
 have sz5:W5.heap.size=P1+1+1+1:=by rw[<-hW5];simp[hP1]
 have b5:Below W4.heap.size W4 W5:=by rw[<-hW5];exact(((Below.refl _ W4).alloc (Nat.le_refl _) _).alloc (by simp) _).alloc (by simp;omega) _
 have xd:Hid (W5.heap[P1]?=some (.cells #[.slice (some ⟨bd,0,none⟩) M cd,.int .u64 (v:Int)] 139 (0,0))):=by
  show _=_
  have h1:=heap_alloc_new W4 (.cells #[.slice (some ⟨bd,0,none⟩) M cd,.int .u64 (v:Int)] 139)
  have h2:Below (W4.heap.size+1) (W4.alloc (.cells #[.slice (some ⟨bd,0,none⟩) M cd,.int .u64 (v:Int)] 139)) W5:=by rw[<-hW5];exact((Below.refl _ _).alloc (by simp) _).alloc (by simp) _
  rw[<-hP1]
  exact(h2.block W4.heap.size (by omega)).trans h1
 have xr:Hid (aB W5 (P1+1) (List.replicate n1 0)):=by
  have h1:=heap_alloc_new (W4.alloc (.cells #[.slice (some ⟨bd,0,none⟩) M cd,.int .u64 (v:Int)] 139)) (.cells (aF n1).toArray 41)
  have h2:Below (W4.heap.size+1+1) ((W4.alloc (.cells #[.slice (some ⟨bd,0,none⟩) M cd,.int .u64 (v:Int)] 139)).alloc (.cells (aF n1).toArray 41)) W5:=by rw[<-hW5];exact(Below.refl _ _).alloc (by simp) _
  rw[World.size_alloc]at h1
  show _=_
  rw[<-hP1]
  exact(h2.block (W4.heap.size+1) (by omega)).trans h1
 have xb:Boxed W5 (P1+1+1) 29 (.slice (some ⟨P1+1,0,none⟩) n1 n1):=by
  have h1:=Boxed.new ((W4.alloc (.cells #[.slice (some ⟨bd,0,none⟩) M cd,.int .u64 (v:Int)] 139)).alloc (.cells (aF n1).toArray 41)) 29 (.slice (some ⟨P1+1,0,none⟩) n1 n1)
  rw[World.size_alloc,World.size_alloc,hW5,hP1]at h1
  exact h1
 have b35:Below W3.heap.size W3 W5:=b4.trans (b5.mono b4.size)
 have b15:Below W1.heap.size W1 W5:=b3.trans (b35.mono b3.size)
 have bw5:Below w.heap.size w W5:=bx.trans (b15.mono bx.size)
 have xq5:=cQ xq b15
 have xm5:=cQ xm b15
 have RD5:=hide ((ae RD).next b35)
 have CSA:=hide (ae CSa W5.drew s hs (bw5.trans ((Below.refl _ _).drew)))
 have HX:Hid (∀ W,Below W5.heap.size W5 W->W.cell? ⟨P1+1+1,0,none⟩=some (.slice (some ⟨P1+1,0,none⟩) n1 n1)):=fun W b=>(cQ xb b).cell
 have HSm:=hide (vR cA.1 hal hs)
 have cxb:=xb.cell
 clear CD CSa CSb CLz b1 cm
 gi_wp2
 refine wpIn_wide.2 ?_
 have bl:Below W5.heap.size W5 W5.drew:=(Below.refl _ _).drew
 go_region_held3 (fun w'=>w'.cell? ⟨P1+1+1,0,none⟩=some (.slice (some ⟨P1+1,0,none⟩) n1 n1)) (first|(exact ae HX _ bl)|(assumption)|go_keep) (first
  |(go_at_call 57;with_reducible refine(ae CSA).mono ?_;rintro e W6 ⟨ra,rfl,na,b6⟩;have bl:=bl.trans (b6.mono bl.size);obtain⟨ga2,ba2,ca2,zs0,rfl,rA2,cA2,vA2,lA2⟩:=na.rep;have HL2:=hide (dE cA2 (by rw[vA2];exact ae HSm));obtain⟨W7,hrun,xr7,o7⟩:=F8 W6 (P1+1) n1 ga2 ba2 0 ca2 _ zs0 (aB.next (ae xr) bl) rA2 rfl (by rw[ae HN1];exact ae HL2);have cxb7:=o7.cell (ae HX _ bl) (by show ¬P1+1+1=P1+1;omega)))
 obtain⟨z0,hz0⟩:∃ z0,z0=zs0++List.replicate (n1-zs0.length) 0:=⟨_,rfl⟩
 rw[<-hz0]at xr7
 have dz0:Hid (ao z0):=by show ao z0;rw[hz0];exact jR cA2.1 _
 have vz0:Hid (af z0=af us*2^s):=by show _=_;rw[hz0,iK,vA2]
 have lz0:Hid (z0.length=n1):=by show _=_;rw[hz0];have:=ae HL2;have:=ae HN1;simp;omega
 have XR7:=hide xr7
 have l6:Hid (W5.heap.size<=W7.heap.size):=Nat.le_trans bl.size o7.size
 have hl7:=ae l6
 rw[sz5]at hl7
 have ob7:Out (·=P1+1) W5 W7:=(Out.of_below bl).trans o7
 have lt0:P0+1<P1:=by have:=xm.lt;have:=b3.size;have:=b4.size;omega
 have xq7:=cq xq5 ob7 (by show ¬P0=P1+1;omega)
 have xm7:=cq xm5 ob7 (by show ¬P0+1=P1+1;omega)
 have xb7:=cq xb ob7 (by show ¬P1+1+1=P1+1;omega)
 have xd7:Hid (W7.heap[P1]?=some (.cells #[.slice (some ⟨bd,0,none⟩) M cd,.int .u64 (v:Int)] 139 (0,0))):=(ob7.block P1 (by omega) (by show ¬P1=P1+1;omega)).trans (ae xd)
 have bdl:bd<P1:=by have:=(ae RD).lt (by omega);have:=b4.size;omega
 have RD7:=hide (ob7.rep (ae RD5) (fun _=>by show ¬bd=P1+1;omega))
 have bw7:Below w.heap.size w W7:=bw5.trans (ob7.below bw5.size (fun k hk=>by rw[hk,hP0];omega))
 have BW7:=hide bw7
 obtain⟨P2,hP2⟩:∃ P2,W7.heap.size=P2:=⟨_,rfl⟩
 obtain⟨W8,hW8⟩:∃ W8,W7.alloc (.cells (aF N).toArray 41)=W8:=⟨_,rfl⟩
 have b8:Below W7.heap.size W7 W8:=by rw[<-hW8];exact(Below.refl _ _).alloc (Nat.le_refl _) _
 have sz8:W8.heap.size=P2+1:=by rw[<-hW8];simp[hP2]
 have xq8:=cQ xq7 b8
 have r8:aB W8 P2 (List.replicate N 0):=by rw[<-hW8, <-hP2];exact heap_alloc_new W7 _
 obtain⟨W9,hW9⟩:∃ W9,W8.setCell ⟨P0,0,none⟩ (.slice (some ⟨P2,0,none⟩) N N)=W9:=⟨_,rfl⟩
 have o9:Out (·=P0) W8 W9:=by rw[<-hW9];exact Out.of_grown (aj _ _ _ _)
 have xq9:Boxed W9 P0 29 (.slice (some ⟨P2,0,none⟩) N N):=by rw[<-hW9];exact xq8.set _
 have sz9:W9.heap.size=P2+1:=by rw[<-hW9, <-sz8];simp
 obtain⟨WB,hWB⟩:∃ WB,W9.alloc (.cells #[.slice (some ⟨P2,0,none⟩) N N] 29)=WB:=⟨_,rfl⟩
 have b10:Below W9.heap.size W9 WB:=by rw[<-hWB];exact(Below.refl _ _).alloc (Nat.le_refl _) _
 have szB:WB.heap.size=P2+1+1:=by rw[<-hWB];simp[sz9]
 have xsB:Boxed WB (P2+1) 29 (.slice (some ⟨P2,0,none⟩) N N):=by have:=Boxed.new W9 29 (.slice (some ⟨P2,0,none⟩) N N);rw[hWB,sz9]at this;exact this
 have oB:Out (·=P0) W7 WB:=((Out.of_below b8).trans o9).trans (Out.of_below b10)
 have xqB:=cQ xq9 b10
 have xmB:=cq xm7 oB (by show ¬P0+1=P0;omega)
 have xbB:=cq xb7 oB (by show ¬P1+1+1=P0;omega)
 have xdB:Hid (WB.heap[P1]?=some (.cells #[.slice (some ⟨bd,0,none⟩) M cd,.int .u64 (v:Int)] 139 (0,0))):=(oB.block P1 (by omega) (by show ¬P1=P0;omega)).trans (ae xd7)
 have rB:Hid (aB WB P2 (List.replicate N 0)):=(o9.blk r8 (by show ¬P2=P0;omega)).next b10
 have zB:Hid (aB WB (P1+1) z0):=oB.blk (ae XR7) (by show ¬P1+1=P0;omega)
 have RB:=hide (oB.rep (ae RD7) (fun _=>by show ¬bd=P0;have:=ae LD;have:=xm.lt;omega))
 have BWB:=hide (bw7.trans (oB.below bw7.size (fun k hk=>by rw[hk,hP0];exact Nat.le_refl _)))
 have cq8:=xq8.cell
 have fq8:=xq8.frozen
 have cq9:=xq9.cell
 have cm8:=(cQ xm7 b8).cell
 have cm7:=xm7.cell
 have CBk:=hide (Bm 3 (some ⟨P2,0,none⟩) N N W9)
 rw[sz9,hWB]at CBk
 clear xr7 hz0 hrun cxb7 cxb HX CSA na rA2 cA2 vA2 lA2 o7 bl xb xq5 xm5 xq xm b15 b35 b5 b4 b3 bx hW5 hW1 hmk1 HSm sz5 bw5 b6 bw7
 gi_wp2
 refine⟨trivial,?_⟩
 refine(ae CBk).mono ?_
 rintro e W10 ⟨rfl,hx⟩
 obtain rfl:=hx.symm
 clear hx CBk
 gi_wp2
 have HS:Hid (∀ W,Out (fun j=>j=P1+1\/j=P2) WB W->(fun w'=>w'.cell? ⟨P0,0,none⟩=some (.slice (some ⟨P2,0,none⟩) N N)/\w'.cell? ⟨P1,0,none⟩=some (.slice (some ⟨bd,0,none⟩) M cd)/\w'.cell? ⟨P1,1,none⟩=some (.int .u64 (v:Int))/\w'.cell? ⟨P1+1+1,0,none⟩=some (.slice (some ⟨P1+1,0,none⟩) n1 n1)/\w'.cell? ⟨P0+1,0,none⟩=some (.int .i64 (M:Int))) W):=fun W o=>⟨(cq xqB o (by omega)).cell,o.cell (cell_of_row _ _ 0 _ _ (0,0) (ae xdB)) (by show ¬(P1=P1+1\/P1=P2);omega),o.cell (cell_of_row _ _ 1 _ _ (0,0) (ae xdB)) (by show ¬(P1=P1+1\/P1=P2);omega),(cq xbB o (by omega)).cell,(cq xmB o (by omega)).cell⟩
 have hDp:0<af ds:=by
  have h1:=oD cD (by omega)
  have:=bI (ds.length-1)
  omega
 have I0:Hid (QI WB (P1+1) P2 N n1 M (af ds) z0 [] WB):=⟨Out.refl _ _,z0,List.replicate N 0,ae zB,ae lz0,ae dz0,ae rB,by simp,fJ N,fun _=>by
  rw[List.length_nil,Nat.sub_zero]
  refine IE (by rw[ae lz0,ae HN1,ae HN,ae HND];omega) (by simp) ?_
  have:=ID (z0:=z0) (n:=n) (m:=m1) cB (by rw[hbl,ae HM,ae HM1]) (by have:=ak cA.1;rw[hal]at this;exact this) (ae vz0) (by have:=ae HM1;have:=ae HM;omega)
  rw[show n-m1=N by have:=ae HM1;have:=ae HM;have:=ae HN;have:=ae HND;omega, <-vD]at this
  exact this⟩
 have lP2:P1+1+1<P2:=by omega
 have HT0:Hid (∀(W:World) (zs:List Nat) (i:Nat),i<N->Out (fun j=>j=P1+1\/j=P2) WB W->aB W (P1+1) zs->zs.length=n1->ao zs->Calls Tryz.prog 114 #[.agg #[.slice (some ⟨bd,0,none⟩) M cd,.int .u64 (v:Int)],.slice (some ⟨P1+1,i,none⟩) (M+1) (n1-i)] W.drew (zP W.drew (P1+1) i M (af ds) zs)):=fun W zs i hi o k1 l1 d1=>
  qP W.drew (P1+1) i (M+1) (n1-i) bd 0 cd m M v (af ds) _ zs ds (by rw[l1];have:=ae HN;have:=ae HND;have:=ae HN1;omega) ldd (ae HM) (Nat.le_refl _) (by have:=ae HN;have:=ae HND;omega) (aB.drewN k1 1) d1 (Rep.drew (o.rep (ae RB) (fun _=>by omega))) cD.1 (by rw[ae HM1]at htd;exact htd) (ae HV) rfl (by omega)
 have HNn:Hid (N<n1/\N+M=n1):=by have:=ae HN;have:=ae HND;have:=ae HN1;show _/\_;omega
 clear hW8 hW9 hWB b8 o9 b10 oB sz8 sz9 r8 xq8 xq9 cq8 fq8 cq9 cm8 cm7 xm7 xb7 xq7 xd7 XR7 RD7 hmk2 ob7 hl7
 refine wpIn_rangeFunc_ownG rfl (by omega) (gf:=151) (lb:=#[.pointer (some ⟨P2+1,0,none⟩)]) rfl trivial (enters_of Tryz.func151 (by kernel_rfl) rfl)
  (yj 3 (by omega) (P2+1) P2 N N (by omega) WB xsB.lt xsB.cell (List.replicate N 0) (by simp) (ae rB)) Ap (KW xsB.lt (ae rB).lt) (Below.refl _ _) (fun _=>rfl)
  (QI WB (P1+1) P2 N n1 M (af ds) z0) (fun _ _ _=>False)
  (QI.own (ae zB).lt (ae rB).lt) (fun _ _ _ _ _ hs _ _=>hs) (ae I0)
  (fun x=>{ tmps:=#[.slice ga n ca,.slice (some ⟨bb,ob,none⟩) M cb,undef,undef,.pointer (some ⟨P0,0,none⟩),.slice none 0 0,.pointer (some ⟨P0+1,0,none⟩),.int .i64 (s:Int),.pointer (some ⟨P1,0,none⟩),.pointer (some ⟨P1+1+1,0,none⟩),.int .i64 (x.1.1:Int),.slice (some ⟨bb,ob,none⟩) M cb,.int .i64 (M:Int),.slice (some ⟨bb,ob,none⟩) M cb,.int .i64 (M:Int),.int .i64 (m1:Int),.pointer (some ⟨bb,ob+m1,none⟩),.int .u64 (t:Int),.int .i64 (s:Int),.slice (some ⟨bb,ob,none⟩) M cb,.int .i64 (s:Int),.slice (some ⟨bd,0,none⟩) M cd,.agg #[.slice (some ⟨bd,0,none⟩) M cd,.int .u64 (v:Int)],.slice ga n ca,.int .i64 (n:Int),.int .i64 (n1:Int),.slice (some ⟨P1+1,0,none⟩) n1 n1,.slice (some ⟨P1+1,0,none⟩) n1 n1,.slice ga n ca,.int .i64 (s:Int),.slice ga2 zs0.length ca2,.int .i64 (zs0.length:Int),.slice ga n ca,.int .i64 (n:Int),.int .i64 (M:Int),.int .i64 (nd:Int),.int .i64 (N:Int),.slice (some ⟨P2,0,none⟩) N N,.slice (some ⟨P2,0,none⟩) N N,.func (.func 151) #[] #[.pointer (some ⟨P2+1,0,none⟩)],.int .i64 (x.1.1:Int),.int .u64 (x.2:Int),undef,undef,undef,undef,undef,undef,undef,undef,undef,undef,undef,undef,undef,undef,undef,undef,undef,undef,undef],defers:=[] }) ?assign ?body ?done ?stop
 case assign=>
  intro l x W K hK
  gi_wp2
  exact hK
 case body=>
  rintro lp pre ⟨⟨i,hi⟩,dd⟩ W hI hlt
  obtain⟨o,zs,qs,k1,l1,d1,k2,l2,d2,hq⟩:=hI
  have CT:=hide (ae HT0 W zs i hi o k1 l1 d1)
  have HStep:=hide (fun e W2 (h:zP W.drew (P1+1) i M (af ds) zs e W2)=>QI.step (WB:=WB) (W:=W) (Bs:=P2+1) (N:=N) (pre:=pre) (x:=(⟨i,hi⟩,dd)) (ae zB).lt (ae rB).lt xsB.lt (by omega) (by omega) (by omega) (ae lz0) hDp (ae HNn).1 o k1 l1 d1 k2 l2 d2 hq h)
  have hS:=ae HS W o
  have HO:=hide o
  obtain⟨iM,hiM⟩:∃ iM,iM=i+M:=⟨_,rfl⟩
  obtain⟨iH,hiH⟩:∃ iH,iH=i+M+1:=⟨_,rfl⟩
  obtain⟨M',hM'⟩:∃ M',M'=M+1:=⟨_,rfl⟩
  obtain⟨cc,hcc⟩:∃ cc,cc=n1-i:=⟨_,rfl⟩
  rw[<-hM', <-hcc]at CT
  have HNN:=ae HNn
  have a1:(i:Int)+(M:Int)=(iM:Int):=by omega
  have a2:IntKind.i64.wrap (iM:Int)=(iM:Int):=by rw[IntKind.wrap_i64];omega
  have a3:(iM:Int)+1=(iH:Int):=by omega
  have a4:IntKind.i64.wrap (iH:Int)=(iH:Int):=by rw[IntKind.wrap_i64];omega
  have a5:i<=iH/\iH<=n1/\iH-i=M'/\n1-i=cc/\¬n1=i/\¬iH=i:=by omega
  obtain⟨a5,a6,a7,a8,a9,a10⟩:=a5
  obtain⟨s0,s1,s2,s3,s4⟩:=hS
  clear o k1 l1 d1 k2 l2 d2 hq hiM hiH hM' hcc HNN
  dsimp only
  gi_wp2
  refine jf (fun w'=>w'.cell? ⟨P0,0,none⟩=some (.slice (some ⟨P2,0,none⟩) N N)/\w'.cell? ⟨P1,0,none⟩=some (.slice (some ⟨bd,0,none⟩) M cd)/\w'.cell? ⟨P1,1,none⟩=some (.int .u64 (v:Int))/\w'.cell? ⟨P1+1+1,0,none⟩=some (.slice (some ⟨P1+1,0,none⟩) n1 n1)/\w'.cell? ⟨P0+1,0,none⟩=some (.int .i64 (M:Int))) (by kernel_rfl) (by kernel_rfl) (fun⟨_,_,h⟩=>h) ⟨s0,s1,s2,s3,s4⟩ (fun hHeld=>?_)
  refine wpAnyH_take (i:=0) (oi:=_) (v:=.slice (some ⟨P2,0,none⟩) N N) rfl (by kernel_rfl) (by kernel_rfl) (by kernel_rfl) (fun _ _ _ h=>h) (Or.inl ⟨by rfl,?_⟩) (by assumption) ?_
  ·intro w hSw
   (try dsimp only at hSw)
   go_simp
  simp only[Act.put,List.setIfInBounds_toArray,List.set_cons_zero,List.set_cons_succ]
  refine wpAnyH_take (i:=1) (oi:=_) (v:=.int .i64 (i:Int)) rfl (by kernel_rfl) (by kernel_rfl) (by kernel_rfl) (fun _ _ _ h=>h) (Or.inl ⟨by rfl,?_⟩) (by assumption) ?_
  ·intro w hSw
   (try dsimp only at hSw)
   go_simp
  simp only[Act.put,List.setIfInBounds_toArray,List.set_cons_zero,List.set_cons_succ]
  refine wpAnyH_take (i:=2) (oi:=_) (v:=.agg #[.slice (some ⟨bd,0,none⟩) M cd,.int .u64 (v:Int)]) rfl (by kernel_rfl) (by kernel_rfl) (by kernel_rfl) (fun _ _ _ h=>h) (Or.inl ⟨by rfl,?_⟩) (by assumption) ?_
  ·intro w hSw
   (try dsimp only at hSw)
   go_simp
  simp only[Act.put,List.setIfInBounds_toArray,List.set_cons_zero,List.set_cons_succ]
  refine wpAnyH_take (i:=3) (oi:=_) (v:=.slice (some ⟨P1+1,0,none⟩) n1 n1) rfl (by kernel_rfl) (by kernel_rfl) (by kernel_rfl) (fun _ _ _ h=>h) (Or.inl ⟨by rfl,?_⟩) (by assumption) ?_
  ·intro w hSw
   (try dsimp only at hSw)
   go_simp
  simp only[Act.put,List.setIfInBounds_toArray,List.set_cons_zero,List.set_cons_succ]
  refine wpAnyH_take (i:=4) (oi:=_) (v:=.int .i64 (i:Int)) rfl (by kernel_rfl) (by kernel_rfl) (by kernel_rfl) (fun _ _ _ h=>h) (Or.inl ⟨by rfl,?_⟩) (by assumption) ?_
  ·intro w hSw
   (try dsimp only at hSw)
   go_simp
  simp only[Act.put,List.setIfInBounds_toArray,List.set_cons_zero,List.set_cons_succ]
  refine wpAnyH_take (i:=5) (oi:=_) (v:=.int .i64 (i:Int)) rfl (by kernel_rfl) (by kernel_rfl) (by kernel_rfl) (fun _ _ _ h=>h) (Or.inl ⟨by rfl,?_⟩) (by assumption) ?_
  ·intro w hSw
   (try dsimp only at hSw)
   go_simp
  simp only[Act.put,List.setIfInBounds_toArray,List.set_cons_zero,List.set_cons_succ]
  refine wpAnyH_take (i:=6) (oi:=_) (v:=.int .i64 (M:Int)) rfl (by kernel_rfl) (by kernel_rfl) (by kernel_rfl) (fun _ _ _ h=>h) (Or.inl ⟨by rfl,?_⟩) (by assumption) ?_
  ·intro w hSw
   (try dsimp only at hSw)
   go_simp
  simp only[Act.put,List.setIfInBounds_toArray,List.set_cons_zero,List.set_cons_succ]
  refine wpAnyH_take (i:=7) (oi:=_) (v:=.int .i64 (iM:Int)) rfl (by kernel_rfl) (by kernel_rfl) (by kernel_rfl) (fun _ _ _ h=>h) (Or.inl ⟨by rfl,?_⟩) (by assumption) ?_
  ·intro w hSw
   (try dsimp only at hSw)
   go_simp
  simp only[Act.put,List.setIfInBounds_toArray,List.set_cons_zero,List.set_cons_succ]
  refine wpAnyH_take (i:=8) (oi:=_) (v:=.int .i64 (iH:Int)) rfl (by kernel_rfl) (by kernel_rfl) (by kernel_rfl) (fun _ _ _ h=>h) (Or.inl ⟨by rfl,?_⟩) (by assumption) ?_
  ·intro w hSw
   (try dsimp only at hSw)
   go_simp
  simp only[Act.put,List.setIfInBounds_toArray,List.set_cons_zero,List.set_cons_succ]
  refine wpAnyH_take (i:=9) (oi:=_) (v:=.slice (some ⟨P1+1,i,none⟩) M' cc) rfl (by kernel_rfl) (by kernel_rfl) (by kernel_rfl) (fun _ _ _ h=>h) (Or.inl ⟨by rfl,?_⟩) (by assumption) ?_
  ·intro w hSw
   (try dsimp only at hSw)
   go_simp
  simp only[Act.put,List.setIfInBounds_toArray,List.set_cons_zero,List.set_cons_succ]
  refine wpAnyH_ready (rs:=[10]) (by kernel_rfl) (by simp) ?_
  refine AllReadyH.cons (o:=_) rfl (fun K hK=>?_) AllReadyH.nil
  go_simp
  refine(ae CT).mono ?_
  rintro e W2 hT
  obtain⟨qw,rfl,hq64,o2,cc2,ff2,HF⟩:=ae HStep _ _ hT
  have HF:=hide HF
  have S2:=ae HS W2 ((ae HO).trans (o2.mono (fun k hk=>Or.inl hk)))
  clear hT HStep CT
  go_wp2_with fail
  refine hK.out _ _ S2 (fun hHeld=>?_)
  clear hK K
  (try simp only[Act.put,List.setIfInBounds_toArray,List.set_cons_zero,List.set_cons_succ])
  refine wpAnyH_ready (rs:=[11]) (by kernel_rfl) (by simp) ?_
  refine AllReadyH.cons (o:=_) rfl (fun K hK=>?_) AllReadyH.nil
  go_simp
  refine hK.out _ _ S2 (fun hHeld=>?_)
  clear hK K
  (try simp only[Act.put,List.setIfInBounds_toArray,List.set_cons_zero,List.set_cons_succ])
  refine wpAnyH_ready (rs:=[12]) (by kernel_rfl) (by simp) ?_
  refine AllReadyH.cons (o:=_) rfl (fun K hK=>?_) AllReadyH.nil
  (try dsimp only at cc2 ff2)
  go_simp
  refine hK.out _ _ (ae HS _ (ae HF).2.2.out) (fun hHeld=>?_)
  clear hK K
  refine wpAnyH_done (by kernel_rfl) ?_ _
  exact ae HF
 case done=>
  rintro D xs W hD ⟨hxl,hdn⟩ hI hK
  obtain⟨o,zs,qs,k1,l1,d1,k2,l2,d2,hq⟩:=hI
  have hqt:=hq hdn
  rw[hxl,Nat.sub_self]at hqt
  obtain⟨vq,vr⟩:=OI hqt
  rw[ae vz0,vD,(vn _ _ s).1]at vq
  rw[ae vz0,vD,(vn _ _ s).2]at vr
  have VQ:=hide vq
  obtain⟨s0,s1,s2,s3,s4⟩:=ae HS W o
  have HO:=hide o
  have DW:=hide (fun j=>d1 j)
  obtain⟨lq,hlq⟩:∃ lq,lq=bY qs N:=⟨_,rfl⟩
  have CTr:=hide (fun W' (b:Below W.heap.size W W')=>mO W' (some ⟨P2,0,none⟩) P2 0 N N lq qs l2 (by omega) (aB.whole (k2.next b) l2) hlq)
  have CSh:=hide (fun W' (b:Below W.heap.size W W')=>gi W' (.slice (some ⟨P1+1,0,none⟩) M n1) (s:Int) (af us%af vs*2^s) s (by omega) ⟨_,_,_,_,zs.take M,by rw[List.length_take,Nat.min_eq_left (by have:=(ae HNn).2;omega)],by have:=(k1.next b).rep 0 M n1 (by have:=(ae HNn).2;omega) (by have:=(ae HNn).2;omega);rw[List.drop_zero]at this;exact this,aX d1 M,vr,by simp;omega⟩)
  simp only[Nat.mul_div_cancel _ (Nat.two_pow_pos s)]at CSh
  have K2:=hide k2
  have L2:=hide l2
  have D2:=hide d2
  have HLQ:=hide hlq
  have lMn:M<=n1:=by have:=(ae HNn).2;omega
  have hDl:D<W.heap.size:=(Array.getElem?_eq_some_iff.1 hK).1
  clear o k1 l1 d1 k2 l2 d2 hq hqt vq vr hlq DW hdn hxl I0
  have xqW:=cq xqB (ae HO) (by omega)
  have lW:P0+1<W.heap.size/\P1+1+1<W.heap.size/\P0<W.heap.size:=by have:=(ae HO).size;omega
  have HX1:Hid (∀ W',Below W.heap.size W W'->W'.cell? ⟨P1+1+1,0,none⟩=some (.slice (some ⟨P1+1,0,none⟩) n1 n1)/\W'.cell? ⟨P0+1,0,none⟩=some (.int .i64 (M:Int))):=fun W' b=>⟨(b.cell (p:=⟨P1+1+1,0,none⟩) lW.2.1).trans s3,(b.cell (p:=⟨P0+1,0,none⟩) lW.1).trans s4⟩
  have HX2:Hid (∀ W' u,Below W.heap.size W W'->(W'.setCell ⟨P0,0,none⟩ u).cell? ⟨P1+1+1,0,none⟩=some (.slice (some ⟨P1+1,0,none⟩) n1 n1)/\(W'.setCell ⟨P0,0,none⟩ u).cell? ⟨P0+1,0,none⟩=some (.int .i64 (M:Int))):=fun W' u b=>⟨(World.cell?_setCell_far _ _ _ _ (by show P0≠P1+1+1;omega)).trans (ae HX1 W' b).1,(World.cell?_setCell_far _ _ _ _ (by show P0≠P0+1;omega)).trans (ae HX1 W' b).2⟩
  gi_wp2
  refine wpIn_wide.2 ?_
  have bl:Below W.heap.size W W.drew:=(Below.refl _ _).drew
  have s0':W.drew.cell? ⟨P0,0,none⟩=some (.slice (some ⟨P2,0,none⟩) N N):=s0
  refine wp_region_noPanic ?_
  refine wp_region_held_drew (S:=fun w'=>w'.cell? ⟨P1+1+1,0,none⟩=some (.slice (some ⟨P1+1,0,none⟩) n1 n1)/\w'.cell? ⟨P0+1,0,none⟩=some (.int .i64 (M:Int))) (by kernel_rfl) (ae HX1 _ bl) (fun hHeld=>?_)
  refine wpAnyH_take (i:=2) (oi:=_) (v:=.slice (some ⟨P1+1,0,none⟩) n1 n1) rfl (by kernel_rfl) (by kernel_rfl) (by kernel_rfl) (fun _ _ _ h=>h) (Or.inl ⟨by rfl,?_⟩) (by assumption) ?_
  ·intro w hSw
   (try dsimp only at hSw)
   go_simp
  simp only[Act.put,List.setIfInBounds_toArray,List.set_cons_zero,List.set_cons_succ]
  refine wpAnyH_take (i:=3) (oi:=_) (v:=.int .i64 (M:Int)) rfl (by kernel_rfl) (by kernel_rfl) (by kernel_rfl) (fun _ _ _ h=>h) (Or.inl ⟨by rfl,?_⟩) (by assumption) ?_
  ·intro w hSw
   (try dsimp only at hSw)
   go_simp
  simp only[Act.put,List.setIfInBounds_toArray,List.set_cons_zero,List.set_cons_succ]
  refine wpAnyH_take (i:=4) (oi:=_) (v:=.slice (some ⟨P1+1,0,none⟩) M n1) rfl (by kernel_rfl) (by kernel_rfl) (by kernel_rfl) (fun _ _ _ h=>h) (Or.inl ⟨by rfl,?_⟩) (by assumption) ?_
  ·intro w hSw
   (try dsimp only at hSw)
   go_simp
  simp only[Act.put,List.setIfInBounds_toArray,List.set_cons_zero,List.set_cons_succ]
  refine wpAnyH_take (i:=5) (oi:=_) (v:=.int .i64 (s:Int)) rfl (by kernel_rfl) (by kernel_rfl) (by kernel_rfl) (fun _ _ _ h=>h) (Or.inl ⟨by rfl,?_⟩) (by assumption) ?_
  ·intro w hSw
   (try dsimp only at hSw)
   go_simp
  simp only[Act.put,List.setIfInBounds_toArray,List.set_cons_zero,List.set_cons_succ]
  refine wpAnyH_ready (rs:=[0]) (by kernel_rfl) (by simp) ?_
  refine AllReadyH.cons (o:=_) rfl (fun K hK=>?_) AllReadyH.nil
  go_simp
  refine hK.out _ _ (ae HX1 _ bl) (fun hHeld=>?_)
  clear hK K
  (try simp only[Act.put,List.setIfInBounds_toArray,List.set_cons_zero,List.set_cons_succ])
  refine wpAnyH_ready (rs:=[1]) (by kernel_rfl) (by simp) ?_
  refine AllReadyH.cons (o:=_) rfl (fun K hK=>?_) AllReadyH.nil
  go_simp
  refine(ae CTr _ bl).mono ?_
  rintro e W5 ⟨rfl,hw⟩
  obtain rfl:=hw.symm
  clear hw
  go_wp2_with fail
  refine hK.out _ _ (ae HX1 _ bl) (fun hHeld=>?_)
  clear hK K
  (try simp only[Act.put,List.setIfInBounds_toArray,List.set_cons_zero,List.set_cons_succ])
  refine wpAnyH_ready (rs:=[6]) (by kernel_rfl) (by simp) ?_
  refine AllReadyH.cons (o:=_) rfl (fun K hK=>?_) AllReadyH.nil
  go_simp
  refine(ae CSh _ bl).mono ?_
  rintro e W6 ⟨r,rfl,nr,b6⟩
  have NR:=hide nr
  obtain⟨ra,rl,rc,rfl⟩:=nr.shape
  have bl:=bl.trans (b6.mono bl.size)
  have xq6:=cQ xqW bl
  have cq6:=xq6.cell
  have fq6:=xq6.frozen
  clear nr
  go_wp2_with fail
  refine hK.out _ _ (ae HX1 _ bl) (fun hHeld=>?_)
  clear hK K
  (try simp only[Act.put,List.setIfInBounds_toArray,List.set_cons_zero,List.set_cons_succ])
  refine wpAnyH_ready (rs:=[7]) (by kernel_rfl) (by simp) ?_
  refine AllReadyH.cons (o:=_) rfl (fun K hK=>?_) AllReadyH.nil
  go_simp
  refine hK.out _ _ (ae HX2 _ _ bl) (fun hHeld=>?_)
  clear hK K
  (try simp only[Act.put,List.setIfInBounds_toArray,List.set_cons_zero,List.set_cons_succ])
  refine wpAnyH_ready (rs:=[8]) (by kernel_rfl) (by simp) ?_
  refine AllReadyH.cons (o:=_) rfl (fun K hK=>?_) AllReadyH.nil
  go_simp
  refine hK.out _ _ (ae HX2 _ _ bl) (fun hHeld=>?_)
  clear hK K
  (try simp only[Act.put,List.setIfInBounds_toArray,List.set_cons_zero,List.set_cons_succ])
  refine wpAnyH_done (by kernel_rfl) ?_ _
  refine NoPanic.normal ?_
  have cz6:=(xq6.set (.slice (some ⟨P2,0,none⟩) lq N)).cell
  gi_wp2
  have hD2:P2+1<D:=by omega
  have hK6:(W6.setCell ⟨P0,0,none⟩ (.slice (some ⟨P2,0,none⟩) lq N)).heap[D]?=some (.deferred (some [])):=(heap_setCell_other _ _ _ _ (by show D≠P0;omega)).trans ((bl.block D hDl).trans hK)
  have oE:=Lp W6 P0 D (.slice (some ⟨P2,0,none⟩) lq N) (.deferred none)
  have xE:Boxed ((W6.setCell ⟨P0,0,none⟩ (.slice (some ⟨P2,0,none⟩) lq N)).putObj D (.deferred none)) P0 29 (.slice (some ⟨P2,0,none⟩) lq N):=(World.putObj_heap_other (by omega)).trans (xq6.set (.slice (some ⟨P2,0,none⟩) lq N))
  have cE:=xE.cell
  have kE:=oE.blk ((ae K2).next bl) (by omega)
  have nE:=oE.newW (ae NR) (fun k hk=>by have:W.drew.heap.size=W.heap.size:=rfl;omega)
  have bE:Below w.heap.size w ((W6.setCell ⟨P0,0,none⟩ (.slice (some ⟨P2,0,none⟩) lq N)).putObj D (.deferred none)):=by
   have h1:=(ae BWB).trans ((ae HO).below (ae BWB).size (fun k hk=>by omega))
   have h2:=h1.trans (bl.mono h1.size)
   exact h2.trans (oE.below h2.size (fun k hk=>by omega))
  obtain⟨gr,hgr,nE⟩:=cF nE
  refine⟨by simp,.inl ⟨_,_,rfl,run_takeDeferred hK6,?_⟩⟩
  refine⟨.tuple #[.slice (some ⟨P2,0,none⟩) lq N,.slice ra rl rc],by simp[results,Tryz.results90,go_sem,cE],?_⟩
  refine⟨_,_,P2,gr,rfl,Ij kE (ae D2) (ae L2) (by omega) (ae HLQ) (ae VQ),nE,⟨?_,by omega,?_⟩,bE⟩
  ·have:W.drew.heap.size=W.heap.size:=rfl
   have:=(ae HO).size
   omega
  ·have:W.drew.heap.size=W.heap.size:=rfl
   have:=(ae HO).size
   omega
 case stop=>
  rintro D c pre W _ _ h _
  exact h.elim
end Go.Proofs.YtgcnhfgpflncaaaGreatDoor
/- New and Long of divs. -/
namespace Go.Proofs.YtgcnhfgpflncaaaGreatDoor
open Go.RowKit
set_option maxHeartbeats 1600000 in
theorem Es:Fz:=by
 intro T w
 have CC:=hide (fun w=>EB T w)
 unfold Tab.val at CC ⊢
 go_enter Tryz.func67,Tryz.ntmps67
 go_wp2_with fail
 refine(ae CC _).mono ?_
 rintro e w1 ⟨gm,gt,gk,ge,g,rfl,E1,⟨hgm,hgt,hgk,hge,hg⟩,b1⟩
 have hg':w.heap.size<=g:=Nat.le_trans (by simp) hg
 have hge':w.heap.size<=ge:=Nat.le_trans (by simp) hge
 have hgk':w.heap.size<=gk:=Nat.le_trans (by simp) hgk
 have hgt':w.heap.size<=gt:=Nat.le_trans (by simp) hgt
 have hgm':w.heap.size<=gm:=Nat.le_trans (by simp) hgm
 have b0:=hide (ag ((Below.refl w.heap.size w).alloc (Nat.le_refl _) _) b1)
 have tl:=E1.met.lt
 have HE:=hide E1
 clear CC b1 hg E1 hge hgk hgt hgm
 go_wp2
 go_ret
 refine⟨w1.heap.size,gm,gt,gk,ge,g,rfl,⟨?_,(ae HE).next ((Below.refl _ _).alloc (Nat.le_refl _) _),by omega⟩,⟨(ae b0).size,hgm',hgt',hgk',hge',hg'⟩,(ae b0).alloc (ae b0).size _⟩
 exact cell_of_row _ w1.heap.size 0 _ _ (0,0) (heap_alloc_new w1 _)
theorem cC{B X:Nat}{w:World}{v:Value}{n:Nat}(h:ah B w v n)(hX:w.heap.size<=X)(hB:B<=X):∃ g,g≠X/\B<=g/\aS g (g+1) w v n:=by
 obtain⟨xs,hc,hv,h|⟨g,ys,hg,rfl,hk,hl⟩⟩:=h
 ·exact⟨X+1,by omega,by omega,xs,hc,hv,Or.inl h⟩
 ·exact⟨g,by have:=hk.lt;omega,hg,xs,hc,hv,Or.inr ⟨g,ys,Nat.le_refl _,by omega,rfl,hk,hl⟩⟩
set_option maxRecDepth 100000 in
set_option maxHeartbeats 3200000 in
theorem Ez:FD:=by
 intro w gd gm gt gk ge g s l m T u v A C hE h0 h1 hl0 hl1 hu hv hC
 obtain⟨ga,ba,oa,ca,xs,rfl,rA0,dA0,vA,lA0⟩:=hu
 obtain⟨gb,bb,ob,cb,ys,rfl,rB0,dB0,vB,lB0⟩:=hv
 obtain⟨n,hn⟩:∃ n,n=bY xs xs.length:=⟨_,rfl⟩
 obtain⟨M,hM⟩:∃ M,M=bY ys ys.length:=⟨_,rfl⟩
 have CA:=hide (mO w ga ba oa ca _ n xs rfl (by omega) rA0 hn)
 have CB:=hide (mO w gb bb ob cb _ M ys rfl (by omega) rB0 hM)
 have rA:=rA0.take n (by rw[hn];exact bo _ _)
 have rB:=rB0.take M (by rw[hM];exact bo _ _)
 obtain⟨us,hus⟩:∃ us,us=xs.take n:=⟨_,rfl⟩
 obtain⟨vs,hvs⟩:∃ vs,vs=ys.take M:=⟨_,rfl⟩
 have cA:cn us:=by have:=dB dA0;unfold mX at this;rw[<-hn, <-hus]at this;exact this
 have cB:cn vs:=by have:=dB dB0;unfold mX at this;rw[<-hM, <-hvs]at this;exact this
 have vA':af us=A:=by have:=cX xs;unfold mX at this;rw[<-hn, <-hus,vA]at this;exact this
 have vB':af vs=C:=by have:=cX ys;unfold mX at this;rw[<-hM, <-hvs,vB]at this;exact this
 have lA:us.length=n:=by have:=aI xs;unfold mX at this;rw[<-hn, <-hus]at this;exact this
 have lB:vs.length=M:=by have:=aI ys;unfold mX at this;rw[<-hM, <-hvs]at this;exact this
 rw[<-hus]at rA
 rw[<-hvs]at rB
 have wA:wl A=n:=by rw[<-vA',fa cA,lA]
 have wC:wl C=M:=by rw[<-vB',fa cB,lB]
 have nb:n<=16384:=by have:=bo xs xs.length;omega
 have Mb:M<=16384:=by have:=bo ys ys.length;omega
 have M0:0<M:=by rw[<-wC];have:=(bO (n:=C));omega
 have HG:Hid (nI A C=if n<M then 0 else (n-M+1)*(M+1)):=by show _=_;unfold nI;rw[wA,wC]
 generalize xs.length=lx at *
 generalize ys.length=ly at *
 have HE:=hide hE
 obtain⟨e0,e1,e2,e3,e4⟩:=hE.way
 have hgl:=hE.met.lt
 clear hus hvs hn hM dA0 dB0 vA vB rA0 rB0 wA wC hE lA0 lB0
 by_cases hlt:n<M
 ·have hlti:(n:Int)<(M:Int):=by omega
  have hAC:A<C:=by rw[<-vA', <-vB'];exact kC cA.1 cB (by omega)
  have CN:=hide (dW w (.slice ga n ca) A ⟨ga,ba,oa,ca,us,by rw[lA],rA,cA.1,vA',by omega⟩)
  have eM:((M:Int)==0)=false:=by simp;omega
  clear rA rB cA cB vA' vB' lA lB
  go_enter Tryz.func71,Tryz.ntmps71
  go_wp2_with fail
  refine(ae CA).mono ?_
  rintro e w1 ⟨rfl,hw⟩
  obtain rfl:=hw.symm
  clear hw
  go_wp2_with fail
  refine(ae CB).mono ?_
  rintro e w1 ⟨rfl,hw⟩
  obtain rfl:=hw.symm
  clear hw
  go_wp2_with fail
  refine(ae CN).mono ?_
  rintro e w2 ⟨r,rfl,nr,b2⟩
  obtain⟨gr,hgr,NR⟩:=cF nr
  clear CA CB CN nr
  go_wp2
  go_ret3
  rw[if_pos hlt]at HG
  have eg:=ae HG
  exact⟨_,r,gr+1,gr,m,rfl,by rw[Nat.div_eq_of_lt hAC];exact Ik _ _ _,by rw[Nat.mod_eq_of_lt hAC];exact NR,⟨by omega,by omega,hgr⟩,by rw[eg,Int.natCast_zero,Int.add_zero];exact(ae HE).next b2,rfl,Out.of_below b2⟩
 ·have hlti:¬(n:Int)<(M:Int):=by omega
  rw[if_neg hlt]at HG
  obtain⟨nd,hnd⟩:∃ nd,nd=n-M:=⟨_,rfl⟩
  obtain⟨N,hN⟩:∃ N,N=nd+1:=⟨_,rfl⟩
  obtain⟨M',hM'⟩:∃ M',M'=M+1:=⟨_,rfl⟩
  obtain⟨kk,hkk⟩:∃ kk,kk=N*M':=⟨_,rfl⟩
  have hkb:kk<=16385*16385:=by rw[hkk];exact Nat.mul_le_mul (by omega) (by omega)
  have HGK:Hid (nI A C=kk):=by show _=_;rw[ae HG,hkk,hN,hM',hnd]
  have n1:(n:Int)-(M:Int)=(nd:Int):=by omega
  have n2:IntKind.i64.wrap (nd:Int)=(nd:Int):=by rw[IntKind.wrap_i64];omega
  have n3:(nd:Int)+1=(N:Int):=by omega
  have n4:IntKind.i64.wrap (N:Int)=(N:Int):=by rw[IntKind.wrap_i64];omega
  have n5:(M:Int)+1=(M':Int):=by omega
  have n6:IntKind.i64.wrap (M':Int)=(M':Int):=by rw[IntKind.wrap_i64];omega
  have n7:(N:Int)*(M':Int)=(kk:Int):=by rw[hkk,Int.natCast_mul]
  have n8:IntKind.i64.wrap (kk:Int)=(kk:Int):=by rw[IntKind.wrap_i64];omega
  have CS:=hide (dn (kk:Int) (s+(kk:Int)) (ae HE).met (by omega) (by omega) (by omega))
  have eM:((M:Int)==0)=false:=by simp;omega
  clear hnd hN hM' hkk HG
  by_cases hM1:M=1
  ·have eM1:((M:Int)==1)=true:=by simp;omega
   obtain⟨y,hy⟩:∃ y,y=vs.getD 0 0:=⟨_,rfl⟩
   have yC:y=C:=by
    rw[<-vB',hy]
    have h2:vs.length=1:=by omega
    match vs,h2 with
    |[a],_=>simp[af]
   have yb:y<18446744073709551616:=by rw[hy];exact cB.1 0
   obtain rfl:=rB.head (by omega)
   have cy:=rB.cell 0 (by omega)
   rw[<-hy,Nat.add_zero]at cy
   have HcY:Hid (∀ W,Out (·=g) w W->W.cell? ⟨bb,ob,none⟩=some (.int .u64 (y:Int))):=fun W o=>(ae HE).mul.cell o cy rfl (fun z e=>by cases e)
   have CD:Hid (∀ W,Out (·=g) w W->Calls Tryz.prog 80 #[.slice ga n ca,.int .u64 (y:Int)] W fun e w'=>∃ q,e=.returned (.tuple #[q,.int .u64 ((A%y:Nat):Int),.int .i64 0])/\ah W.heap.size w' q (A/y)/\Below W.heap.size W w'):=fun W o=>
    mN W _ A y (by omega) yb ⟨ga,ba,oa,ca,us,by rw[lA],(ae HE).rep o rA,cA.1,vA',by omega⟩
   have ry:A%y<18446744073709551616:=Nat.lt_trans (Nat.mod_lt _ (by omega)) yb
   have HQ:Hid (A/y=A/C/\A%y=A%C):=by rw[yC];exact⟨rfl,rfl⟩
   generalize A/y=Q at *
   generalize A%y=R at *
   have CO:=hide (fun W=>kK W R ry)
   clear rA rB cA cB vA' vB' lA lB hy yC cy hM1
   go_enter Tryz.func71,Tryz.ntmps71
   go_wp2_with fail
   refine(ae CA).mono ?_
   rintro e w1 ⟨rfl,hw⟩
   obtain rfl:=hw.symm
   clear hw
   go_wp2_with fail
   refine(ae CB).mono ?_
   rintro e w1 ⟨rfl,hw⟩
   obtain rfl:=hw.symm
   clear hw
   go_wp2_with fail
   with_reducible refine(ae CS).mono ?_
   rintro e w2 ⟨rfl,M2,T2⟩
   have o2:=Out.of_grown T2.grown
   have E2:=hide ((ae HE).step M2 T2)
   have cy:=ae HcY _ o2
   have CD:=hide (ae CD _ o2)
   have HO:=hide o2
   clear CA CB CS M2 T2 o2
   go_wp2_with fail
   with_reducible refine(ae CD).mono ?_
   rintro e w3 ⟨q,rfl,nq,b3⟩
   have NQ:=hide nq
   obtain⟨qa,ql,qc,rfl⟩:=nq.shape
   clear nq
   go_wp2_with fail
   refine(ae CO _).mono ?_
   rintro e w4 ⟨r,rfl,nr,b4⟩
   obtain⟨gr,hgr,NR⟩:=cF nr
   obtain⟨gq,hne,hgq,NQ⟩:=cC (X:=gr) (ae NQ) hgr (Nat.le_trans b3.size hgr)
   have NQ:=hide (NQ.next b4)
   have NR:=hide NR
   obtain⟨ra,rl,rc,rfl⟩:=nr.shape
   clear nr CD CO
   go_wp2
   go_ret3
   rw[ae HGK, <-(ae HQ).1, <-(ae HQ).2]
   have sz:=(ae HO).size
   have sz3:=b3.size
   exact⟨_,_,gq,gr,m,rfl,ae NQ,ae NR,⟨hne,by omega,by omega⟩,((ae E2).next b3).next b4,rfl,((ae HO).next b3).next b4⟩
  ·have eM1:((M:Int)==1)=false:=by simp;omega
   obtain⟨m2,hm2⟩:∃ m2,M=m2+2:=⟨M-2,by omega⟩
   have CBm:Hid (∀ W,Out (·=g) w W->Calls Tryz.prog 90 #[.slice ga n ca,.slice gb M cb] W fun e w'=>∃ q r gq gr,e=.returned (.tuple #[q,r])/\aS gq (gq+1) w' q (A/C)/\aS gr (gr+1) w' r (A%C)/\(gq≠gr/\W.heap.size<=gq/\W.heap.size<=gr)/\Below W.heap.size W w'):=fun W o=>by
    rw[<-vA', <-vB']
    exact ym W ga ba oa ca n us gb bb ob cb m2 M vs ((ae HE).rep o rA) cA lA ((ae HE).rep o rB) cB lB hm2 (by omega) nb
   clear rA rB cA cB vA' vB' lA lB hm2 hM1
   go_enter Tryz.func71,Tryz.ntmps71
   go_wp2_with fail
   refine(ae CA).mono ?_
   rintro e w1 ⟨rfl,hw⟩
   obtain rfl:=hw.symm
   clear hw
   go_wp2_with fail
   refine(ae CB).mono ?_
   rintro e w1 ⟨rfl,hw⟩
   obtain rfl:=hw.symm
   clear hw
   go_wp2_with fail
   with_reducible refine(ae CS).mono ?_
   rintro e w2 ⟨rfl,M2,T2⟩
   have o2:=Out.of_grown T2.grown
   have E2:=hide ((ae HE).step M2 T2)
   have CD:=hide (ae CBm _ o2)
   have HO:=hide o2
   clear CA CB CS M2 T2 o2 CBm
   go_wp2_with fail
   with_reducible refine(ae CD).mono ?_
   rintro e w3 ⟨q,r,gq,gr,rfl,nq,nr,hh,b3⟩
   have NQ:=hide nq
   obtain⟨qa,ql,qc,rfl⟩:=nq.toW.shape
   have NR:=hide nr
   obtain⟨ra,rl,rc,rfl⟩:=nr.toW.shape
   clear nq nr
   go_wp2
   go_ret3
   rw[ae HGK]
   have sz:=(ae HO).size
   exact⟨_,_,gq,gr,m,rfl,ae NQ,ae NR,⟨hh.1,by omega,by omega⟩,(ae E2).next b3,rfl,(ae HO).next b3⟩
end Go.Proofs.YtgcnhfgpflncaaaGreatDoor
