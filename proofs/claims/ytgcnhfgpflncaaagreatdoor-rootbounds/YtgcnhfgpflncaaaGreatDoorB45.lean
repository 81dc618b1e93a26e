/- blocks of the landed code: a product in pieces of the longer one. -/
import Derived.Test.YtgcnhfgpflncaaaGreatDoorB44
import Derived.Test.YtgcnhfgpflncaaaGreatDoorB4
import Derived.Stop.RegionWithIn
import Derived.Test.YtgcnhfgpflncaaaGreatDoorB40
import Derived.Test.YtgcnhfgpflncaaaGreatDoorB17
import Derived.Test.YtgcnhfgpflncaaaGreatDoorB36
import Derived.Test.YtgcnhfgpflncaaaGreatDoorB37
import Derived.Test.YtgcnhfgpflncaaaGreatDoorB33
import Derived.Test.YtgcnhfgpflncaaaGreatDoorB43
import Derived.Deep.RegionHeld3
import Derived.Laws.CopyOwn
import Derived.Test.YtgcnhfgpflncaaaGreatDoorB12
import Derived.Test.YtgcnhfgpflncaaaGreatDoorB8
namespace Go.Proofs.YtgcnhfgpflncaaaGreatDoor
open Go.RowKit Go.Shelf
attribute [local go_sem] Oper.semAt_some
set_option linter.unusedSimpArgs false
set_option maxRecDepth 100000 in
set_option maxHeartbeats 3200000 in
theorem Bo(w:World)(gm gt gk ge g:Nat)(s l m:Int)(T:Tab)(gb:Option Addr)(b o cap n b' o' cap' k q:Nat)(xs ys:List Nat)(IH:dG k)(hk:k<=16384)(hk0:0<k)(hn:n<=16384)(hnk:k<=n)
  (hE:aC w gm gt gk ge g s l m T) (hT:TB w) (h0:0<=s) (h1:s+35184372088832*((k:Int)+2)<=2305843009213693952) (h2:0<=l) (h3:l+1+(k:Int)<=100000)
  (hR:Rep w (some ⟨b,o,none⟩) b o cap xs) (hxl:xs.length=n) (hd:ao xs) (hR':Rep w gb b' o' cap' ys) (hyl:ys.length=k) (hd':ao ys) (hq1:n<=k*q) (hq2:k*q<n+k) (hq3:q<=16384):
  Calls Tryz.prog 107 #[.pointer (some ⟨gm,0,none⟩),.slice (some ⟨b,o,none⟩) n cap,.slice gb k cap',.int .i64 (k:Int)] w fun e w'=>∃ r,e=.returned r/\bu w gm gt gk ge g s l m T (af xs*af ys) (fA T.B T.D T.N 2 n k) (jq k+1) r w':=by
 have CE:=hide (fun W (M:Met W g 0 s l m)=>dh (l+1) (max m (l+1)) M rfl rfl (by omega) (by omega))
 have CC:=hide (fun W=>qZ 3 (some ⟨b,o,none⟩) n cap k W hk0)
 have hswi:¬(n:Int)<(k:Int):=by omega
 obtain⟨i0,hi,hz0,hz1,hz2⟩:=s9 Tryz.infoNt
 have HT:=hide hT
 have HE:=hide hE
 have HR:=hide hR
 have HR':=hide hR'
 have bE:=Boxed.new w 84 (.pointer (some ⟨gm,0,none⟩))
 have bB:=Boxed.new (w.alloc (.cells #[.pointer (some ⟨gm,0,none⟩)] 84)) 29 (.slice gb k cap')
 rw[World.size_alloc]at bB
 replace bE:=bE.alloc (.cells #[.slice gb k cap'] 29)
 have b1:Below w.heap.size w ((w.alloc (.cells #[.pointer (some ⟨gm,0,none⟩)] 84)).alloc (.cells #[.slice gb k cap'] 29)):=((Below.refl _ w).alloc (Nat.le_refl _) _).alloc (by simp) _
 obtain⟨W1,hW1⟩:∃ W1,(w.alloc (.cells #[.pointer (some ⟨gm,0,none⟩)] 84)).alloc (.cells #[.slice gb k cap'] 29)=W1:=⟨_,rfl⟩
 rw[hW1]at bE bB b1
 obtain⟨P0,hP0⟩:∃ P0,w.heap.size=P0:=⟨_,rfl⟩
 rw[hP0]at bE bB
 have lP:=bB.lt
 have hgl:=hE.met.lt
 have E1:=hE.next b1
 obtain⟨e0,e1,e2,e3⟩:=E1.way
 have cE:=bE.cell
 have cB:=bB.cell
 clear hE hT hR hR'
 refine(callsIn_wide (n:=4)).1 ?_
 refine callsIn_of_wp_marks Tryz.func107 rfl trivial ?_ rfl
 simp only[Tryz.ntmps107,List.size_toArray,List.length_cons,List.length_nil,Nat.reduceAdd,Nat.reduceSub,Array.replicate_succ,Array.replicate_zero,List.push_toArray,List.append_toArray,List.nil_append,List.cons_append]
 gi_wp2_with (refine⟨trivial,?_⟩;gi_at_call 122;refine(callsIn_wide.2 (ae CE _ E1.met)).mono ?_;rintro e W2 ⟨rfl,M2,T2⟩;have E2:=E1.step M2 T2;have o2:=Out.of_grown T2.grown;have bE2:=bV bE o2 (by omega);have bB2:=bV bB o2 (by omega);obtain⟨e0,e1,e2,e3⟩:=E2.way;obtain⟨BP,hBP⟩:∃ BP,W2.heap.size=BP:=⟨_,rfl⟩;have cE:=bE2.cell;have cB:=bB2.cell;clear E1 bE bB M2 T2)
 refine⟨trivial,?_⟩
 have b3:Below W2.heap.size W2 (((W2.alloc (.cells #[.slice none 0 0] 113)).alloc (.cells #[.slice (some ⟨b,o,none⟩) n cap] 29)).alloc (.cells #[.int .i64 (k:Int)] 3)):=(((Below.refl _ W2).alloc (Nat.le_refl _) _).alloc (by simp) _).alloc (by simp;omega) _
 have bP:=((Boxed.new W2 113 (.slice none 0 0)).alloc (.cells #[.slice (some ⟨b,o,none⟩) n cap] 29)).alloc (.cells #[.int .i64 (k:Int)] 3)
 have bS:=(Boxed.new (W2.alloc (.cells #[.slice none 0 0] 113)) 29 (.slice (some ⟨b,o,none⟩) n cap)).alloc (.cells #[.int .i64 (k:Int)] 3)
 have bN:=Boxed.new ((W2.alloc (.cells #[.slice none 0 0] 113)).alloc (.cells #[.slice (some ⟨b,o,none⟩) n cap] 29)) 3 (.int .i64 (k:Int))
 have CC3:=hide (ae CC (W2.alloc (.cells #[.slice none 0 0] 113)))
 have hsz:(((W2.alloc (.cells #[.slice none 0 0] 113)).alloc (.cells #[.slice (some ⟨b,o,none⟩) n cap] 29)).alloc (.cells #[.int .i64 (k:Int)] 3)).heap.size=BP+1+1+1:=by simp[hBP]
 rw[World.size_alloc,World.size_alloc,hBP]at bN
 rw[World.size_alloc,hBP]at bS
 rw[hBP]at bP
 rw[World.size_alloc,hBP]at CC3
 have bE4:=(((bE2.alloc (.cells #[.slice none 0 0] 113)).alloc (.cells #[.slice (some ⟨b,o,none⟩) n cap] 29)).alloc (.cells #[.int .i64 (k:Int)] 3))
 have bB4:=(((bB2.alloc (.cells #[.slice none 0 0] 113)).alloc (.cells #[.slice (some ⟨b,o,none⟩) n cap] 29)).alloc (.cells #[.int .i64 (k:Int)] 3))
 have E4:=E2.next b3
 obtain⟨W4,hW4⟩:∃ W4,((W2.alloc (.cells #[.slice none 0 0] 113)).alloc (.cells #[.slice (some ⟨b,o,none⟩) n cap] 29)).alloc (.cells #[.int .i64 (k:Int)] 3)=W4:=⟨_,rfl⟩
 rw[hW4]at b3 bP bS bN CC3 hsz bE4 bB4 E4
 have o4:Out (·=g) w W4:=((Out.of_below b1).trans o2).next b3
 have lB:=bE2.lt
 have lB':=bB2.lt
 rw[hBP]at lB lB'
 obtain⟨base,hbase⟩:∃ base,W4.heap.size=base:=⟨_,rfl⟩
 have I0:Hid (BI w gm gt gk ge g s l m T (jq k) P0 (P0+1) BP (BP+1) (BP+1+1) base (.slice gb k cap') (.slice (some ⟨b,o,none⟩) n cap) k n (af ys) xs [] W4):=⟨⟨_,by rw[show nV T k n []=0 from rfl,Int.natCast_zero,Int.add_zero];exact E4,Int.le_refl _,by omega⟩,bE4,bB4,bS,bN,⟨_,[],bP,World.ownsRow_nil _ _ _ _,PR.nil _ _⟩,o4⟩
 refine(ae CC3).mono ?_
 rintro e W4' ⟨rfl,hx⟩
 obtain rfl:=hx.symm
 clear hx CC CC3 CE
 gi_wp2
 have hcap:=(ae HR).room
 rw[hxl]at hcap
 refine wpIn_rangeFunc_ownG rfl (by omega) (gf:=175) (lb:=#[.pointer (some ⟨BP+1,0,none⟩),.pointer (some ⟨BP+1+1,0,none⟩)]) rfl trivial (enters_of Tryz.func175 (by kernel_rfl) rfl)
  (nF 3 (by omega) (BP+1) (BP+1+1) b o n cap k q hk0 hk hn hcap hq1 hq2 W4 bS.lt bN.lt bS.cell bN.cell) Ao (Am bS.lt bN.lt) (Below.refl _ _) (fun _=>rfl)
  (BI w gm gt gk ge g s l m T (jq k) P0 (P0+1) BP (BP+1) (BP+1+1) base (.slice gb k cap') (.slice (some ⟨b,o,none⟩) n cap) k n (af ys) xs) (fun _ _ _=>False)
  (by rw[hbase];exact BI.own (ae HE) (by omega)) (fun _ _ _ _ _ hs _ _=>hs) (ae I0)
  (fun x=>{ tmps:=#[.pointer (some ⟨gm,0,none⟩),.slice (some ⟨b,o,none⟩) n cap,.slice gb k cap',.int .i64 (k:Int),.pointer (some ⟨P0,0,none⟩),undef,.pointer (some ⟨P0+1,0,none⟩),undef,.slice none 0 0,.pointer (some ⟨BP,0,none⟩),f9 b o n k x,.slice (some ⟨b,o,none⟩) n cap,.int .i64 (n:Int),.slice gb k cap',.int .i64 (k:Int),.bool false,undef,undef,.pointer (some ⟨gm,0,none⟩),.pointer (some ⟨gm,0,none⟩),.pointer (some ⟨gm,0,none⟩),.pointer (some ⟨gt,0,none⟩),.pointer (some ⟨gt,0,none⟩),.pointer (some ⟨gt,0,none⟩),.pointer (some ⟨gk,0,none⟩),.pointer (some ⟨gk,0,none⟩),.pointer (some ⟨gk,0,none⟩),.pointer (some ⟨ge,0,none⟩),.pointer (some ⟨ge,0,none⟩),.pointer (some ⟨ge,0,none⟩),.pointer (some ⟨g,0,none⟩),.pointer (some ⟨g,0,none⟩),.pointer (some ⟨g,0,none⟩),.int .i64 (l+1),.pointer (some ⟨gm,0,none⟩),.pointer (some ⟨gm,0,none⟩),.pointer (some ⟨gm,0,none⟩),.pointer (some ⟨gt,0,none⟩),.pointer (some ⟨gt,0,none⟩),.pointer (some ⟨gt,0,none⟩),.pointer (some ⟨gk,0,none⟩),.pointer (some ⟨gk,0,none⟩),.pointer (some ⟨gk,0,none⟩),.pointer (some ⟨ge,0,none⟩),.pointer (some ⟨ge,0,none⟩),.pointer (some ⟨ge,0,none⟩),.pointer (some ⟨g,0,none⟩),.pointer (some ⟨g,0,none⟩),.pointer (some ⟨g,0,none⟩),.slice (some ⟨b,o,none⟩) n cap,.int .i64 (k:Int),.func (.func 175) #[] #[.pointer (some ⟨BP+1,0,none⟩),.pointer (some ⟨BP+1+1,0,none⟩)],f9 b o n k x,undef,undef,undef,undef,undef,undef,undef,undef,undef,undef],defers:=[] }) ?assign ?body ?done ?stop
 case assign=>
  intro l x W K hK
  gi_wp2
  exact hK
 case body=>
  rintro lp pre x W hI hlt
  have hb:w.heap.size<=base:=by omega
  have HD:=hide (hI.drew (ae HE) hb)
  have CT:=hide (BI.times IH hk (ae HE) (ae HT) h0 h1 h2 h3 (ae HR) hxl hd (ae HR') hyl hd' hq3 (ae HD) x hlt)
  obtain⟨v,us,p1,p2,p3⟩:=hI.prod
  obtain⟨gv,bv,cv,rfl,_,_,_⟩:=mY p2
  have HRD:=hide (BI.round (x:=x) (ae HE) hb (by omega) (by omega) (by omega) (by omega) (by omega) (by omega) (by omega) (by omega) (by omega) hI (by have:=hI.bN.lt;omega) (by omega) p1 p2 p3)
  have cP:=p1.cell
  have fP:=p1.frozen
  have cE:=hI.bE.cell
  have cB:=hI.bB.cell
  clear hI p1 p2 p3 IH E2 E4 I0 bE2 bB2 bE4 bB4 bP bS bN
  gi_wp2
  -- round
  refine jf (fun w'=>w'.cell? ⟨P0,0,none⟩=some (.pointer (some ⟨gm,0,none⟩))/\w'.cell? ⟨P0+1,0,none⟩=some (.slice gb k cap')) (by kernel_rfl) (by kernel_rfl) (fun⟨_,_,h⟩=>h) ⟨cE,cB⟩ (fun hHeld=>?_)
  refine wpAnyH_take (i:=1) (oi:=_) (v:=.pointer (some ⟨gm,0,none⟩)) rfl (by kernel_rfl) (by kernel_rfl) (by kernel_rfl) (fun _ _ _ h=>h) (Or.inl ⟨by rfl,?_⟩) (by assumption) ?_
  ·intro w hSw
   (try dsimp only at hSw)
   go_simp
  simp only[Act.put,List.setIfInBounds_toArray,List.set_cons_zero,List.set_cons_succ]
  refine wpAnyH_take (i:=2) (oi:=_) (v:=f9 b o n k x) rfl (by kernel_rfl) (by kernel_rfl) (by kernel_rfl) (fun _ _ _ h=>h) (Or.inl ⟨by rfl,?_⟩) (by assumption) ?_
  ·intro w hSw
   (try dsimp only at hSw)
   go_simp
  simp only[Act.put,List.setIfInBounds_toArray,List.set_cons_zero,List.set_cons_succ]
  refine wpAnyH_take (i:=3) (oi:=_) (v:=.slice gb k cap') rfl (by kernel_rfl) (by kernel_rfl) (by kernel_rfl) (fun _ _ _ h=>h) (Or.inl ⟨by rfl,?_⟩) (by assumption) ?_
  ·intro w hSw
   (try dsimp only at hSw)
   go_simp
  simp only[Act.put,List.setIfInBounds_toArray,List.set_cons_zero,List.set_cons_succ]
  refine wpAnyH_ready (rs:=[0,4]) (by kernel_rfl) (by simp) ?_
  refine AllReadyH.cons (o:=_) rfl (fun K hK=>?_) ?_
  ·skip
   go_simp
   refine hK.out _ _ (by assumption) (fun hHeld=>?_)
   clear hK K
   (try simp only[Act.put,List.setIfInBounds_toArray,List.set_cons_zero,List.set_cons_succ])
   refine wpAnyH_ready (rs:=[4]) (by kernel_rfl) (by simp) ?_
   refine AllReadyH.cons (o:=_) rfl (fun K hK=>?_) AllReadyH.nil
   go_simp
   refine(ae CT).mono ?_
   rintro e W2 ⟨r,rfl,td⟩
   obtain⟨ra,rl,rc,rfl⟩:=td.1.shape
   obtain⟨w1,g1,c1,hrun,cP1,fP1,S1,cE2,cB2,cP2,HF⟩:=ae HRD W2 ra rl rc td
   clear td
   go_wp2_with fail
   refine hK.out _ _ ⟨cE2,cB2⟩ (fun hHeld=>?_)
   clear hK K
   (try simp only[Act.put,List.setIfInBounds_toArray,List.set_cons_zero,List.set_cons_succ])
   refine wpAnyH_ready (rs:=[5]) (by kernel_rfl) (by simp) ?_
   refine AllReadyH.cons (o:=_) rfl (fun K hK=>?_) AllReadyH.nil
   go_simp
   refine hK.out _ _ ⟨cI cE2 _,cI cB2 _⟩ (fun hHeld=>?_)
   clear hK K
   (try simp only[Act.put,List.setIfInBounds_toArray,List.set_cons_zero,List.set_cons_succ])
   refine wpAnyH_ready (rs:=[6]) (by kernel_rfl) (by simp) ?_
   refine AllReadyH.cons (o:=_) rfl (fun K hK=>?_) AllReadyH.nil
   refine bZ rfl (.tmp 53) (.tmp 58) 113 rfl rfl rfl hrun ?_
   refine hK.out _ _ S1 (fun hHeld=>?_)
   clear hK K
   (try simp only[Act.put,List.setIfInBounds_toArray,List.set_cons_zero,List.set_cons_succ])
   refine wpAnyH_ready (rs:=[7]) (by kernel_rfl) (by simp) ?_
   refine AllReadyH.cons (o:=_) rfl (fun K hK=>?_) AllReadyH.nil
   go_simp
   obtain⟨F1,F2,F3⟩:=ae HF
   refine hK.out _ _ ⟨F3.bE.cell,F3.bB.cell⟩ (fun hHeld=>?_)
   clear hK K
   refine wpAnyH_done (by kernel_rfl) ?_ _
   exact⟨by rw[hbase];exact F1,F2,F3⟩
  refine AllReadyH.cons (o:=_) rfl (fun K hK=>?_) AllReadyH.nil
  go_simp
  refine(ae CT).mono ?_
  rintro e W2 ⟨r,rfl,td⟩
  obtain⟨ra,rl,rc,rfl⟩:=td.1.shape
  obtain⟨w1,g1,c1,hrun,cP1,fP1,S1,cE2,cB2,cP2,HF⟩:=ae HRD W2 ra rl rc td
  clear td
  go_wp2_with fail
  refine hK.out _ _ ⟨cE2,cB2⟩ (fun hHeld=>?_)
  clear hK K
  (try simp only[Act.put,List.setIfInBounds_toArray,List.set_cons_zero,List.set_cons_succ])
  refine wpAnyH_ready (rs:=[0,5]) (by kernel_rfl) (by simp) ?_
  refine AllReadyH.cons (o:=_) rfl (fun K hK=>?_) ?_
  ·skip
   go_simp
   refine hK.out _ _ (by assumption) (fun hHeld=>?_)
   clear hK K
   (try simp only[Act.put,List.setIfInBounds_toArray,List.set_cons_zero,List.set_cons_succ])
   refine wpAnyH_ready (rs:=[5]) (by kernel_rfl) (by simp) ?_
   refine AllReadyH.cons (o:=_) rfl (fun K hK=>?_) AllReadyH.nil
   go_simp
   refine hK.out _ _ ⟨cI cE2 _,cI cB2 _⟩ (fun hHeld=>?_)
   clear hK K
   (try simp only[Act.put,List.setIfInBounds_toArray,List.set_cons_zero,List.set_cons_succ])
   refine wpAnyH_ready (rs:=[6]) (by kernel_rfl) (by simp) ?_
   refine AllReadyH.cons (o:=_) rfl (fun K hK=>?_) AllReadyH.nil
   refine bZ rfl (.tmp 53) (.tmp 58) 113 rfl rfl rfl hrun ?_
   refine hK.out _ _ S1 (fun hHeld=>?_)
   clear hK K
   (try simp only[Act.put,List.setIfInBounds_toArray,List.set_cons_zero,List.set_cons_succ])
   refine wpAnyH_ready (rs:=[7]) (by kernel_rfl) (by simp) ?_
   refine AllReadyH.cons (o:=_) rfl (fun K hK=>?_) AllReadyH.nil
   go_simp
   obtain⟨F1,F2,F3⟩:=ae HF
   refine hK.out _ _ ⟨F3.bE.cell,F3.bB.cell⟩ (fun hHeld=>?_)
   clear hK K
   refine wpAnyH_done (by kernel_rfl) ?_ _
   exact⟨by rw[hbase];exact F1,F2,F3⟩
  refine AllReadyH.cons (o:=_) rfl (fun K hK=>?_) AllReadyH.nil
  go_simp
  refine hK.out _ _ ⟨cI cE2 _,cI cB2 _⟩ (fun hHeld=>?_)
  clear hK K
  (try simp only[Act.put,List.setIfInBounds_toArray,List.set_cons_zero,List.set_cons_succ])
  have cP3:=cI cP2 (.cells #[.slice ra rl rc] 29)
  refine wpAnyH_ready (rs:=[0]) (by kernel_rfl) (by simp) ?_
  refine AllReadyH.cons (o:=_) rfl (fun K hK=>?_) AllReadyH.nil
  go_simp
  refine hK.out _ _ (by assumption) (fun hHeld=>?_)
  clear hK K
  (try simp only[Act.put,List.setIfInBounds_toArray,List.set_cons_zero,List.set_cons_succ])
  refine wpAnyH_ready (rs:=[6]) (by kernel_rfl) (by simp) ?_
  refine AllReadyH.cons (o:=_) rfl (fun K hK=>?_) AllReadyH.nil
  refine bZ rfl (.tmp 53) (.tmp 58) 113 rfl rfl rfl hrun ?_
  refine hK.out _ _ S1 (fun hHeld=>?_)
  clear hK K
  (try simp only[Act.put,List.setIfInBounds_toArray,List.set_cons_zero,List.set_cons_succ])
  refine wpAnyH_ready (rs:=[7]) (by kernel_rfl) (by simp) ?_
  refine AllReadyH.cons (o:=_) rfl (fun K hK=>?_) AllReadyH.nil
  go_simp
  obtain⟨F1,F2,F3⟩:=ae HF
  refine hK.out _ _ ⟨F3.bE.cell,F3.bB.cell⟩ (fun hHeld=>?_)
  clear hK K
  refine wpAnyH_done (by kernel_rfl) ?_ _
  exact⟨by rw[hbase];exact F1,F2,F3⟩
  -- end
 case done=>
  rintro D zs W hD rfl hI hK
  obtain⟨gv,bv,cv,us,p1,hul,hP⟩:=hI.parts hd hd' hyl hk
  have CJ:=hide (mR W gv bv 0 cv q k (k:Int) us _ hul (by omega) (by omega) hP)
  rw[oU (by omega) (by omega)]at CJ
  have hcst:nU T.B T.D T.N n k q=fA T.B T.D T.N 2 n k:=by rw[uT _ _ _ _ _ _ hk0 hq1 hq2];simp[fA]
  have cP:=p1.cell
  have HI:=hide hI
  rw[hbase]at hD
  have hDl:D<W.heap.size:=(Array.getElem?_eq_some_iff.1 hK).1
  clear hI p1 hP IH E2 E4 I0 bE2 bB2 bE4 bB4 bP bS bN
  gi_wp2_with (refine⟨trivial,?_⟩;gi_at_call 78;refine(callsIn_wide.2 (ae CJ)).mono ?_;rintro e W5 ⟨r,rfl,nr,b5⟩)
  have hK5:=(b5.block D hDl).trans hK
  obtain⟨m1,E6,q1,q2,nr6,o6⟩:=BI.six (.deferred none) (ae HE) (ae HI) (by omega) hD hK5 b5 nr
  rw[hcst]at E6
  refine⟨by simp,.inl ⟨_,_,rfl,run_takeDeferred hK5,?_⟩⟩
  refine⟨by simp,.inr ⟨fun h=>by simp[Fence.wide]at h,_,_,123,#[.pointer (some ⟨g,0,none⟩)],rfl,by simp[go_sem],fun _ _=>trivial,?_⟩⟩
  refine(rp _ l .returning E6.met (by omega) (by omega) (by omega)).mono ?_
  rintro e u' W7 ⟨rfl,rfl,M7,T7⟩
  exact⟨_,results_tmp rfl _ _ _,r,rfl,vJ (ae HE) E6 q1 q2 nr6 (by have:=(ae HI).out.size;omega) o6 M7 T7⟩
 case stop=>
  rintro D c pre W _ _ h _
  exact h.elim
end Go.Proofs.YtgcnhfgpflncaaaGreatDoor
/- blocks of the landed code,where the longer one comes second. Written by gen_yblkb.py. -/
namespace Go.Proofs.YtgcnhfgpflncaaaGreatDoor
open Go.RowKit Go.Shelf
attribute [local go_sem] Oper.semAt_some
set_option linter.unusedSimpArgs false
set_option maxRecDepth 100000 in
set_option maxHeartbeats 3200000 in
theorem Bq(w:World)(gm gt gk ge g:Nat)(s l m:Int)(T:Tab)(gb:Option Addr)(b o cap n b' o' cap' k q:Nat)(xs ys:List Nat)(IH:dG k)(hk:k<=16384)(hk0:0<k)(hn:n<=16384)(hnk:k<n)
  (hE:aC w gm gt gk ge g s l m T) (hT:TB w) (h0:0<=s) (h1:s+35184372088832*((k:Int)+2)<=2305843009213693952) (h2:0<=l) (h3:l+1+(k:Int)<=100000)
  (hR:Rep w (some ⟨b,o,none⟩) b o cap xs) (hxl:xs.length=n) (hd:ao xs) (hR':Rep w gb b' o' cap' ys) (hyl:ys.length=k) (hd':ao ys) (hq1:n<=k*q) (hq2:k*q<n+k) (hq3:q<=16384):
  Calls Tryz.prog 107 #[.pointer (some ⟨gm,0,none⟩),.slice gb k cap',.slice (some ⟨b,o,none⟩) n cap,.int .i64 (k:Int)] w fun e w'=>∃ r,e=.returned r/\bu w gm gt gk ge g s l m T (af xs*af ys) (fA T.B T.D T.N 2 n k) (jq k+1) r w':=by
 have CE:=hide (fun W (M:Met W g 0 s l m)=>dh (l+1) (max m (l+1)) M rfl rfl (by omega) (by omega))
 have CC:=hide (fun W=>qZ 3 (some ⟨b,o,none⟩) n cap k W hk0)
 have hswi:(k:Int)<(n:Int):=by omega
 obtain⟨i0,hi,hz0,hz1,hz2⟩:=s9 Tryz.infoNt
 have HT:=hide hT
 have HE:=hide hE
 have HR:=hide hR
 have HR':=hide hR'
 have bE:=Boxed.new w 84 (.pointer (some ⟨gm,0,none⟩))
 have bB:=Boxed.new (w.alloc (.cells #[.pointer (some ⟨gm,0,none⟩)] 84)) 29 (.slice (some ⟨b,o,none⟩) n cap)
 rw[World.size_alloc]at bB
 replace bE:=bE.alloc (.cells #[.slice (some ⟨b,o,none⟩) n cap] 29)
 have b0:Below w.heap.size w ((w.alloc (.cells #[.pointer (some ⟨gm,0,none⟩)] 84)).alloc (.cells #[.slice (some ⟨b,o,none⟩) n cap] 29)):=((Below.refl _ w).alloc (Nat.le_refl _) _).alloc (by simp) _
 obtain⟨W0,hW0⟩:∃ W0,(w.alloc (.cells #[.pointer (some ⟨gm,0,none⟩)] 84)).alloc (.cells #[.slice (some ⟨b,o,none⟩) n cap] 29)=W0:=⟨_,rfl⟩
 rw[hW0]at bE bB b0
 obtain⟨P0,hP0⟩:∃ P0,w.heap.size=P0:=⟨_,rfl⟩
 rw[hP0]at bE bB
 have cB0:=bB.cell
 have fB0:=bB.frozen
 have b1:Below w.heap.size w (W0.setCell ⟨P0+1,0,none⟩ (.slice gb k cap')):=b0.setCell (p:=⟨P0+1,0,none⟩) (by simp;omega) _
 replace bB:=Boxed.set (.slice gb k cap') bB
 replace bE:Boxed (W0.setCell ⟨P0+1,0,none⟩ (.slice gb k cap')) P0 84 (.pointer (some ⟨gm,0,none⟩)):=(heap_setCell_other W0 ⟨P0+1,0,none⟩ P0 _ (by simp)).trans bE
 obtain⟨W1,hW1⟩:∃ W1,W0.setCell ⟨P0+1,0,none⟩ (.slice gb k cap')=W1:=⟨_,rfl⟩
 rw[hW1]at bE bB b1
 have lP:=bB.lt
 have hgl:=hE.met.lt
 have E1:=hE.next b1
 obtain⟨e0,e1,e2,e3⟩:=E1.way
 have cE:=bE.cell
 have cB:=bB.cell
 clear hE hT hR hR'
 refine(callsIn_wide (n:=4)).1 ?_
 refine callsIn_of_wp_marks Tryz.func107 rfl trivial ?_ rfl
 simp only[Tryz.ntmps107,List.size_toArray,List.length_cons,List.length_nil,Nat.reduceAdd,Nat.reduceSub,Array.replicate_succ,Array.replicate_zero,List.push_toArray,List.append_toArray,List.nil_append,List.cons_append]
 gi_wp2_with (refine⟨trivial,?_⟩;gi_at_call 122;refine(callsIn_wide.2 (ae CE _ E1.met)).mono ?_;rintro e W2 ⟨rfl,M2,T2⟩;have E2:=E1.step M2 T2;have o2:=Out.of_grown T2.grown;have bE2:=bV bE o2 (by omega);have bB2:=bV bB o2 (by omega);obtain⟨e0,e1,e2,e3⟩:=E2.way;obtain⟨BP,hBP⟩:∃ BP,W2.heap.size=BP:=⟨_,rfl⟩;have cE:=bE2.cell;have cB:=bB2.cell;clear E1 bE bB M2 T2)
 refine⟨trivial,?_⟩
 have b3:Below W2.heap.size W2 (((W2.alloc (.cells #[.slice none 0 0] 113)).alloc (.cells #[.slice (some ⟨b,o,none⟩) n cap] 29)).alloc (.cells #[.int .i64 (k:Int)] 3)):=(((Below.refl _ W2).alloc (Nat.le_refl _) _).alloc (by simp) _).alloc (by simp;omega) _
 have bP:=((Boxed.new W2 113 (.slice none 0 0)).alloc (.cells #[.slice (some ⟨b,o,none⟩) n cap] 29)).alloc (.cells #[.int .i64 (k:Int)] 3)
 have bS:=(Boxed.new (W2.alloc (.cells #[.slice none 0 0] 113)) 29 (.slice (some ⟨b,o,none⟩) n cap)).alloc (.cells #[.int .i64 (k:Int)] 3)
 have bN:=Boxed.new ((W2.alloc (.cells #[.slice none 0 0] 113)).alloc (.cells #[.slice (some ⟨b,o,none⟩) n cap] 29)) 3 (.int .i64 (k:Int))
 have CC3:=hide (ae CC (W2.alloc (.cells #[.slice none 0 0] 113)))
 have hsz:(((W2.alloc (.cells #[.slice none 0 0] 113)).alloc (.cells #[.slice (some ⟨b,o,none⟩) n cap] 29)).alloc (.cells #[.int .i64 (k:Int)] 3)).heap.size=BP+1+1+1:=by simp[hBP]
 rw[World.size_alloc,World.size_alloc,hBP]at bN
 rw[World.size_alloc,hBP]at bS
 rw[hBP]at bP
 rw[World.size_alloc,hBP]at CC3
 have bE4:=(((bE2.alloc (.cells #[.slice none 0 0] 113)).alloc (.cells #[.slice (some ⟨b,o,none⟩) n cap] 29)).alloc (.cells #[.int .i64 (k:Int)] 3))
 have bB4:=(((bB2.alloc (.cells #[.slice none 0 0] 113)).alloc (.cells #[.slice (some ⟨b,o,none⟩) n cap] 29)).alloc (.cells #[.int .i64 (k:Int)] 3))
 have E4:=E2.next b3
 obtain⟨W4,hW4⟩:∃ W4,((W2.alloc (.cells #[.slice none 0 0] 113)).alloc (.cells #[.slice (some ⟨b,o,none⟩) n cap] 29)).alloc (.cells #[.int .i64 (k:Int)] 3)=W4:=⟨_,rfl⟩
 rw[hW4]at b3 bP bS bN CC3 hsz bE4 bB4 E4
 have o4:Out (·=g) w W4:=((Out.of_below b1).trans o2).next b3
 have lB:=bE2.lt
 have lB':=bB2.lt
 rw[hBP]at lB lB'
 obtain⟨base,hbase⟩:∃ base,W4.heap.size=base:=⟨_,rfl⟩
 have I0:Hid (BI w gm gt gk ge g s l m T (jq k) P0 (P0+1) BP (BP+1) (BP+1+1) base (.slice gb k cap') (.slice (some ⟨b,o,none⟩) n cap) k n (af ys) xs [] W4):=⟨⟨_,by rw[show nV T k n []=0 from rfl,Int.natCast_zero,Int.add_zero];exact E4,Int.le_refl _,by omega⟩,bE4,bB4,bS,bN,⟨_,[],bP,World.ownsRow_nil _ _ _ _,PR.nil _ _⟩,o4⟩
 refine(ae CC3).mono ?_
 rintro e W4' ⟨rfl,hx⟩
 obtain rfl:=hx.symm
 clear hx CC CC3 CE
 gi_wp2
 have hcap:=(ae HR).room
 rw[hxl]at hcap
 refine wpIn_rangeFunc_ownG rfl (by omega) (gf:=175) (lb:=#[.pointer (some ⟨BP+1,0,none⟩),.pointer (some ⟨BP+1+1,0,none⟩)]) rfl trivial (enters_of Tryz.func175 (by kernel_rfl) rfl)
  (nF 3 (by omega) (BP+1) (BP+1+1) b o n cap k q hk0 hk hn hcap hq1 hq2 W4 bS.lt bN.lt bS.cell bN.cell) Ao (Am bS.lt bN.lt) (Below.refl _ _) (fun _=>rfl)
  (BI w gm gt gk ge g s l m T (jq k) P0 (P0+1) BP (BP+1) (BP+1+1) base (.slice gb k cap') (.slice (some ⟨b,o,none⟩) n cap) k n (af ys) xs) (fun _ _ _=>False)
  (by rw[hbase];exact BI.own (ae HE) (by omega)) (fun _ _ _ _ _ hs _ _=>hs) (ae I0)
  (fun x=>{ tmps:=#[.pointer (some ⟨gm,0,none⟩),.slice (some ⟨b,o,none⟩) n cap,.slice (some ⟨b,o,none⟩) n cap,.int .i64 (k:Int),.pointer (some ⟨P0,0,none⟩),undef,.pointer (some ⟨P0+1,0,none⟩),undef,.slice none 0 0,.pointer (some ⟨BP,0,none⟩),f9 b o n k x,.slice gb k cap',.int .i64 (k:Int),.slice (some ⟨b,o,none⟩) n cap,.int .i64 (n:Int),.bool true,.slice (some ⟨b,o,none⟩) n cap,.slice gb k cap',.pointer (some ⟨gm,0,none⟩),.pointer (some ⟨gm,0,none⟩),.pointer (some ⟨gm,0,none⟩),.pointer (some ⟨gt,0,none⟩),.pointer (some ⟨gt,0,none⟩),.pointer (some ⟨gt,0,none⟩),.pointer (some ⟨gk,0,none⟩),.pointer (some ⟨gk,0,none⟩),.pointer (some ⟨gk,0,none⟩),.pointer (some ⟨ge,0,none⟩),.pointer (some ⟨ge,0,none⟩),.pointer (some ⟨ge,0,none⟩),.pointer (some ⟨g,0,none⟩),.pointer (some ⟨g,0,none⟩),.pointer (some ⟨g,0,none⟩),.int .i64 (l+1),.pointer (some ⟨gm,0,none⟩),.pointer (some ⟨gm,0,none⟩),.pointer (some ⟨gm,0,none⟩),.pointer (some ⟨gt,0,none⟩),.pointer (some ⟨gt,0,none⟩),.pointer (some ⟨gt,0,none⟩),.pointer (some ⟨gk,0,none⟩),.pointer (some ⟨gk,0,none⟩),.pointer (some ⟨gk,0,none⟩),.pointer (some ⟨ge,0,none⟩),.pointer (some ⟨ge,0,none⟩),.pointer (some ⟨ge,0,none⟩),.pointer (some ⟨g,0,none⟩),.pointer (some ⟨g,0,none⟩),.pointer (some ⟨g,0,none⟩),.slice (some ⟨b,o,none⟩) n cap,.int .i64 (k:Int),.func (.func 175) #[] #[.pointer (some ⟨BP+1,0,none⟩),.pointer (some ⟨BP+1+1,0,none⟩)],f9 b o n k x,undef,undef,undef,undef,undef,undef,undef,undef,undef,undef],defers:=[] }) ?assign ?body ?done ?stop
 case assign=>
  intro l x W K hK
  gi_wp2
  exact hK
 case body=>
  rintro lp pre x W hI hlt
  have hb:w.heap.size<=base:=by omega
  have HD:=hide (hI.drew (ae HE) hb)
  have CT:=hide (BI.times IH hk (ae HE) (ae HT) h0 h1 h2 h3 (ae HR) hxl hd (ae HR') hyl hd' hq3 (ae HD) x hlt)
  obtain⟨v,us,p1,p2,p3⟩:=hI.prod
  obtain⟨gv,bv,cv,rfl,_,_,_⟩:=mY p2
  have HRD:=hide (BI.round (x:=x) (ae HE) hb (by omega) (by omega) (by omega) (by omega) (by omega) (by omega) (by omega) (by omega) (by omega) hI (by have:=hI.bN.lt;omega) (by omega) p1 p2 p3)
  have cP:=p1.cell
  have fP:=p1.frozen
  have cE:=hI.bE.cell
  have cB:=hI.bB.cell
  clear hI p1 p2 p3 IH E2 E4 I0 bE2 bB2 bE4 bB4 bP bS bN
  gi_wp2
  -- round
  refine jf (fun w'=>w'.cell? ⟨P0,0,none⟩=some (.pointer (some ⟨gm,0,none⟩))/\w'.cell? ⟨P0+1,0,none⟩=some (.slice gb k cap')) (by kernel_rfl) (by kernel_rfl) (fun⟨_,_,h⟩=>h) ⟨cE,cB⟩ (fun hHeld=>?_)
  refine wpAnyH_take (i:=1) (oi:=_) (v:=.pointer (some ⟨gm,0,none⟩)) rfl (by kernel_rfl) (by kernel_rfl) (by kernel_rfl) (fun _ _ _ h=>h) (Or.inl ⟨by rfl,?_⟩) (by assumption) ?_
  ·intro w hSw
   (try dsimp only at hSw)
   go_simp
  simp only[Act.put,List.setIfInBounds_toArray,List.set_cons_zero,List.set_cons_succ]
  refine wpAnyH_take (i:=2) (oi:=_) (v:=f9 b o n k x) rfl (by kernel_rfl) (by kernel_rfl) (by kernel_rfl) (fun _ _ _ h=>h) (Or.inl ⟨by rfl,?_⟩) (by assumption) ?_
  ·intro w hSw
   (try dsimp only at hSw)
   go_simp
  simp only[Act.put,List.setIfInBounds_toArray,List.set_cons_zero,List.set_cons_succ]
  refine wpAnyH_take (i:=3) (oi:=_) (v:=.slice gb k cap') rfl (by kernel_rfl) (by kernel_rfl) (by kernel_rfl) (fun _ _ _ h=>h) (Or.inl ⟨by rfl,?_⟩) (by assumption) ?_
  ·intro w hSw
   (try dsimp only at hSw)
   go_simp
  simp only[Act.put,List.setIfInBounds_toArray,List.set_cons_zero,List.set_cons_succ]
  refine wpAnyH_ready (rs:=[0,4]) (by kernel_rfl) (by simp) ?_
  refine AllReadyH.cons (o:=_) rfl (fun K hK=>?_) ?_
  ·skip
   go_simp
   refine hK.out _ _ (by assumption) (fun hHeld=>?_)
   clear hK K
   (try simp only[Act.put,List.setIfInBounds_toArray,List.set_cons_zero,List.set_cons_succ])
   refine wpAnyH_ready (rs:=[4]) (by kernel_rfl) (by simp) ?_
   refine AllReadyH.cons (o:=_) rfl (fun K hK=>?_) AllReadyH.nil
   go_simp
   refine(ae CT).mono ?_
   rintro e W2 ⟨r,rfl,td⟩
   obtain⟨ra,rl,rc,rfl⟩:=td.1.shape
   obtain⟨w1,g1,c1,hrun,cP1,fP1,S1,cE2,cB2,cP2,HF⟩:=ae HRD W2 ra rl rc td
   clear td
   go_wp2_with fail
   refine hK.out _ _ ⟨cE2,cB2⟩ (fun hHeld=>?_)
   clear hK K
   (try simp only[Act.put,List.setIfInBounds_toArray,List.set_cons_zero,List.set_cons_succ])
   refine wpAnyH_ready (rs:=[5]) (by kernel_rfl) (by simp) ?_
   refine AllReadyH.cons (o:=_) rfl (fun K hK=>?_) AllReadyH.nil
   go_simp
   refine hK.out _ _ ⟨cI cE2 _,cI cB2 _⟩ (fun hHeld=>?_)
   clear hK K
   (try simp only[Act.put,List.setIfInBounds_toArray,List.set_cons_zero,List.set_cons_succ])
   refine wpAnyH_ready (rs:=[6]) (by kernel_rfl) (by simp) ?_
   refine AllReadyH.cons (o:=_) rfl (fun K hK=>?_) AllReadyH.nil
   refine bZ rfl (.tmp 53) (.tmp 58) 113 rfl rfl rfl hrun ?_
   refine hK.out _ _ S1 (fun hHeld=>?_)
   clear hK K
   (try simp only[Act.put,List.setIfInBounds_toArray,List.set_cons_zero,List.set_cons_succ])
   refine wpAnyH_ready (rs:=[7]) (by kernel_rfl) (by simp) ?_
   refine AllReadyH.cons (o:=_) rfl (fun K hK=>?_) AllReadyH.nil
   go_simp
   obtain⟨F1,F2,F3⟩:=ae HF
   refine hK.out _ _ ⟨F3.bE.cell,F3.bB.cell⟩ (fun hHeld=>?_)
   clear hK K
   refine wpAnyH_done (by kernel_rfl) ?_ _
   exact⟨by rw[hbase];exact F1,F2,F3⟩
  refine AllReadyH.cons (o:=_) rfl (fun K hK=>?_) AllReadyH.nil
  go_simp
  refine(ae CT).mono ?_
  rintro e W2 ⟨r,rfl,td⟩
  obtain⟨ra,rl,rc,rfl⟩:=td.1.shape
  obtain⟨w1,g1,c1,hrun,cP1,fP1,S1,cE2,cB2,cP2,HF⟩:=ae HRD W2 ra rl rc td
  clear td
  go_wp2_with fail
  refine hK.out _ _ ⟨cE2,cB2⟩ (fun hHeld=>?_)
  clear hK K
  (try simp only[Act.put,List.setIfInBounds_toArray,List.set_cons_zero,List.set_cons_succ])
  refine wpAnyH_ready (rs:=[0,5]) (by kernel_rfl) (by simp) ?_
  refine AllReadyH.cons (o:=_) rfl (fun K hK=>?_) ?_
  ·skip
   go_simp
   refine hK.out _ _ (by assumption) (fun hHeld=>?_)
   clear hK K
   (try simp only[Act.put,List.setIfInBounds_toArray,List.set_cons_zero,List.set_cons_succ])
   refine wpAnyH_ready (rs:=[5]) (by kernel_rfl) (by simp) ?_
   refine AllReadyH.cons (o:=_) rfl (fun K hK=>?_) AllReadyH.nil
   go_simp
   refine hK.out _ _ ⟨cI cE2 _,cI cB2 _⟩ (fun hHeld=>?_)
   clear hK K
   (try simp only[Act.put,List.setIfInBounds_toArray,List.set_cons_zero,List.set_cons_succ])
   refine wpAnyH_ready (rs:=[6]) (by kernel_rfl) (by simp) ?_
   refine AllReadyH.cons (o:=_) rfl (fun K hK=>?_) AllReadyH.nil
   refine bZ rfl (.tmp 53) (.tmp 58) 113 rfl rfl rfl hrun ?_
   refine hK.out _ _ S1 (fun hHeld=>?_)
   clear hK K
   (try simp only[Act.put,List.setIfInBounds_toArray,List.set_cons_zero,List.set_cons_succ])
   refine wpAnyH_ready (rs:=[7]) (by kernel_rfl) (by simp) ?_
   refine AllReadyH.cons (o:=_) rfl (fun K hK=>?_) AllReadyH.nil
   go_simp
   obtain⟨F1,F2,F3⟩:=ae HF
   refine hK.out _ _ ⟨F3.bE.cell,F3.bB.cell⟩ (fun hHeld=>?_)
   clear hK K
   refine wpAnyH_done (by kernel_rfl) ?_ _
   exact⟨by rw[hbase];exact F1,F2,F3⟩
  refine AllReadyH.cons (o:=_) rfl (fun K hK=>?_) AllReadyH.nil
  go_simp
  refine hK.out _ _ ⟨cI cE2 _,cI cB2 _⟩ (fun hHeld=>?_)
  clear hK K
  (try simp only[Act.put,List.setIfInBounds_toArray,List.set_cons_zero,List.set_cons_succ])
  have cP3:=cI cP2 (.cells #[.slice ra rl rc] 29)
  refine wpAnyH_ready (rs:=[0]) (by kernel_rfl) (by simp) ?_
  refine AllReadyH.cons (o:=_) rfl (fun K hK=>?_) AllReadyH.nil
  go_simp
  refine hK.out _ _ (by assumption) (fun hHeld=>?_)
  clear hK K
  (try simp only[Act.put,List.setIfInBounds_toArray,List.set_cons_zero,List.set_cons_succ])
  refine wpAnyH_ready (rs:=[6]) (by kernel_rfl) (by simp) ?_
  refine AllReadyH.cons (o:=_) rfl (fun K hK=>?_) AllReadyH.nil
  refine bZ rfl (.tmp 53) (.tmp 58) 113 rfl rfl rfl hrun ?_
  refine hK.out _ _ S1 (fun hHeld=>?_)
  clear hK K
  (try simp only[Act.put,List.setIfInBounds_toArray,List.set_cons_zero,List.set_cons_succ])
  refine wpAnyH_ready (rs:=[7]) (by kernel_rfl) (by simp) ?_
  refine AllReadyH.cons (o:=_) rfl (fun K hK=>?_) AllReadyH.nil
  go_simp
  obtain⟨F1,F2,F3⟩:=ae HF
  refine hK.out _ _ ⟨F3.bE.cell,F3.bB.cell⟩ (fun hHeld=>?_)
  clear hK K
  refine wpAnyH_done (by kernel_rfl) ?_ _
  exact⟨by rw[hbase];exact F1,F2,F3⟩
  -- end
 case done=>
  rintro D zs W hD rfl hI hK
  obtain⟨gv,bv,cv,us,p1,hul,hP⟩:=hI.parts hd hd' hyl hk
  have CJ:=hide (mR W gv bv 0 cv q k (k:Int) us _ hul (by omega) (by omega) hP)
  rw[oU (by omega) (by omega)]at CJ
  have hcst:nU T.B T.D T.N n k q=fA T.B T.D T.N 2 n k:=by rw[uT _ _ _ _ _ _ hk0 hq1 hq2];simp[fA]
  have cP:=p1.cell
  have HI:=hide hI
  rw[hbase]at hD
  have hDl:D<W.heap.size:=(Array.getElem?_eq_some_iff.1 hK).1
  clear hI p1 hP IH E2 E4 I0 bE2 bB2 bE4 bB4 bP bS bN
  gi_wp2_with (refine⟨trivial,?_⟩;gi_at_call 78;refine(callsIn_wide.2 (ae CJ)).mono ?_;rintro e W5 ⟨r,rfl,nr,b5⟩)
  have hK5:=(b5.block D hDl).trans hK
  obtain⟨m1,E6,q1,q2,nr6,o6⟩:=BI.six (.deferred none) (ae HE) (ae HI) (by omega) hD hK5 b5 nr
  rw[hcst]at E6
  refine⟨by simp,.inl ⟨_,_,rfl,run_takeDeferred hK5,?_⟩⟩
  refine⟨by simp,.inr ⟨fun h=>by simp[Fence.wide]at h,_,_,123,#[.pointer (some ⟨g,0,none⟩)],rfl,by simp[go_sem],fun _ _=>trivial,?_⟩⟩
  refine(rp _ l .returning E6.met (by omega) (by omega) (by omega)).mono ?_
  rintro e u' W7 ⟨rfl,rfl,M7,T7⟩
  exact⟨_,results_tmp rfl _ _ _,r,rfl,vJ (ae HE) E6 q1 q2 nr6 (by have:=(ae HI).out.size;omega) o6 M7 T7⟩
 case stop=>
  rintro D c pre W _ _ h _
  exact h.elim
end Go.Proofs.YtgcnhfgpflncaaaGreatDoor
/- by of the landed code:a product by one route. Written by gen_yby.py. -/
namespace Go.Proofs.YtgcnhfgpflncaaaGreatDoor
open Go.RowKit
theorem vO(a b:Int)(w:World):(Builtin.min2 (.int .i64 a) (.int .i64 b)).run Tryz.prog w=.ok (.int .i64 (min a b)) w:=by
 unfold Builtin.min2
 simp[go_sem]
 omega
theorem Dm(a b c d:Int)(h:d=min (min a b) c)(w:World):(Builtin.min_ #[3,3,3] 3 #[.int .i64 a,.int .i64 b,.int .i64 c]).run Tryz.prog w=.ok (.int .i64 d) w:=by
 subst h
 simp[Builtin.min_,go_sem]
 rw[vO]
 show Sem.run Tryz.prog (Builtin.min2 (Value.int IntKind.i64 (min a b)) (Value.int IntKind.i64 c)) w=_
 rw[vO]
 congr 2
 omega
theorem fc(fn:Fn)(first cap:Array Value)(w:World):(Instr.makeFunc fn first cap).run Tryz.prog w=.ok (.func fn first cap) w:=rfl
set_option maxRecDepth 100000 in
set_option maxHeartbeats 1600000 in
theorem by_none(w:World)(gm:Nat)(u v:Value)(r:Int)(h:r<1\/5<r):
  Calls Tryz.prog 108 #[.pointer (some ⟨gm,0,none⟩),.int .i64 r,u,v] w fun e w'=>e=.returned (.tuple #[.slice none 0 0,.bool false])/\w'=w:=by
 have h1:(r==1)=false:=by simp;omega
 have h2:(r==2)=false:=by simp;omega
 have h3:(r==3)=false:=by simp;omega
 have h4:(r==4)=false:=by simp;omega
 have h5:(r==5)=false:=by simp;omega
 clear h
 go_enter Tryz.func108,Tryz.ntmps108
 go_wp2
 go_ret2
 exact⟨rfl,rfl⟩
set_option maxRecDepth 100000 in
set_option maxHeartbeats 1600000 in
theorem NT{w:World}{gm gt gk ge g:Nat}{s l m:Int}{T:Tab}(hE:aC w gm gt gk ge g s l m T){u v:Value}{Q:Value->World->Prop}
  (C:Calls Tryz.prog 145 #[.pointer (some ⟨ge,0,none⟩),u,v] w fun e w'=>∃ r,e=.returned r/\Q r w'):
  Calls Tryz.prog 108 #[.pointer (some ⟨gm,0,none⟩),.int .i64 1,u,v] w fun e w'=>∃ r,e=.returned (.tuple #[r,.bool true])/\Q r w':=by
 have HC:=hide C
 obtain⟨e0,e1,e2,e3⟩:=hE.way
 have hmf:=fc
 clear C hE
 go_enter Tryz.func108,Tryz.ntmps108
 go_wp2_with fail
 refine(ae HC).mono ?_
 rintro e w1 ⟨r,rfl,h⟩
 have H:=hide h
 clear h HC
 go_wp2
 go_ret2
 exact⟨_,rfl,ae H⟩
set_option maxRecDepth 100000 in
set_option maxHeartbeats 1600000 in
theorem NU{w:World}{gm gt gk ge g:Nat}{s l m:Int}{T:Tab}(hE:aC w gm gt gk ge g s l m T){ga gb:Option Addr}{cap cap' la lb k:Nat}{Q:Value->World->Prop}(hk:k=min la lb)(hla:la<=16384)(hlb:lb<=16384)
  (C:Calls Tryz.prog 107 #[.pointer (some ⟨gm,0,none⟩),.slice ga la cap,.slice gb lb cap',.int .i64 (k:Int)] w fun e w'=>∃ r,e=.returned r/\Q r w'):
  Calls Tryz.prog 108 #[.pointer (some ⟨gm,0,none⟩),.int .i64 2,.slice ga la cap,.slice gb lb cap'] w fun e w'=>∃ r,e=.returned (.tuple #[r,.bool true])/\Q r w':=by
 have HC:=hide C
 obtain⟨e0,e1,e2,e3⟩:=hE.way
 have hmf:=fc
 have m1:=Dm (la:Int) (lb:Int) 16384 (k:Int) (by omega)
 clear hk hla hlb
 clear C hE
 go_enter Tryz.func108,Tryz.ntmps108
 go_wp2_with fail
 refine(ae HC).mono ?_
 rintro e w1 ⟨r,rfl,h⟩
 have H:=hide h
 clear h HC
 go_wp2
 go_ret2
 exact⟨_,rfl,ae H⟩
set_option maxRecDepth 100000 in
set_option maxHeartbeats 1600000 in
theorem F4{w:World}{gm gt gk ge g:Nat}{s l m:Int}{T:Tab}(hE:aC w gm gt gk ge g s l m T){u v:Value}{Q:Value->Bool->World->Prop}
  (C:Calls Tryz.prog 146 #[.pointer (some ⟨gk,0,none⟩),u,v,.func (.func 84) #[.pointer (some ⟨gm,0,none⟩)] #[]] w fun e w'=>∃ r b,e=.returned (.tuple #[r,.bool b])/\Q r b w'):
  Calls Tryz.prog 108 #[.pointer (some ⟨gm,0,none⟩),.int .i64 3,u,v] w fun e w'=>∃ r b,e=.returned (.tuple #[r,.bool b])/\Q r b w':=by
 have HC:=hide C
 obtain⟨e0,e1,e2,e3⟩:=hE.way
 have hmf:=fc
 clear C hE
 go_enter Tryz.func108,Tryz.ntmps108
 go_wp2_with fail
 refine(ae HC).mono ?_
 rintro e w1 ⟨r,b,rfl,h⟩
 have H:=hide h
 clear h HC
 go_wp2
 go_ret2
 exact⟨_,_,rfl,ae H⟩
set_option maxRecDepth 100000 in
set_option maxHeartbeats 1600000 in
theorem J3{w:World}{gm gt gk ge g:Nat}{s l m:Int}{T:Tab}(hE:aC w gm gt gk ge g s l m T){u v:Value}{Q:Value->Bool->World->Prop}
  (C:Calls Tryz.prog 147 #[.pointer (some ⟨gt,0,none⟩),u,v,.func (.func 84) #[.pointer (some ⟨gm,0,none⟩)] #[]] w fun e w'=>∃ r b,e=.returned (.tuple #[r,.bool b])/\Q r b w'):
  Calls Tryz.prog 108 #[.pointer (some ⟨gm,0,none⟩),.int .i64 4,u,v] w fun e w'=>∃ r b,e=.returned (.tuple #[r,.bool b])/\Q r b w':=by
 have HC:=hide C
 obtain⟨e0,e1,e2,e3⟩:=hE.way
 have hmf:=fc
 clear C hE
 go_enter Tryz.func108,Tryz.ntmps108
 go_wp2_with fail
 refine(ae HC).mono ?_
 rintro e w1 ⟨r,b,rfl,h⟩
 have H:=hide h
 clear h HC
 go_wp2
 go_ret2
 exact⟨_,_,rfl,ae H⟩
set_option maxRecDepth 100000 in
set_option maxHeartbeats 1600000 in
theorem J2{w:World}{gm gt gk ge g:Nat}{s l m:Int}{T:Tab}(hE:aC w gm gt gk ge g s l m T){u v:Value}{Q:Value->Bool->World->Prop}
  (C:Calls Tryz.prog 148 #[.pointer (some ⟨g,0,none⟩),u,v] w fun e w'=>∃ r b,e=.returned (.tuple #[r,.bool b])/\Q r b w'):
  Calls Tryz.prog 108 #[.pointer (some ⟨gm,0,none⟩),.int .i64 5,u,v] w fun e w'=>∃ r b,e=.returned (.tuple #[r,.bool b])/\Q r b w':=by
 have HC:=hide C
 obtain⟨e0,e1,e2,e3⟩:=hE.way
 have hmf:=fc
 clear C hE
 go_enter Tryz.func108,Tryz.ntmps108
 go_wp2_with fail
 refine(ae HC).mono ?_
 rintro e w1 ⟨r,b,rfl,h⟩
 have H:=hide h
 clear h HC
 go_wp2
 go_ret2
 exact⟨_,_,rfl,ae H⟩
theorem NZ{n k:Nat}(hk:0<k)(hn:0<n):∃ q,n<=k*q/\k*q<n+k/\q<=n:=by
 refine⟨(n+k-1)/k,?_,?_,?_⟩
 ·have h1:=Nat.div_add_mod (n+k-1) k
  have h2:=Nat.mod_lt (n+k-1) hk
  omega
 ·have h1:=Nat.div_add_mod (n+k-1) k
  omega
 ·refine Nat.le_of_lt_succ ((Nat.div_lt_iff_lt_mul hk).2 ?_)
  have:n*1<=n*k:=Nat.mul_le_mul_left n hk
  rw[Nat.succ_mul]
  omega
theorem uS{w:World}{gm gt gk ge g:Nat}{s l m:Int}{T:Tab}(hE:aC w gm gt gk ge g s l m T)(hT:TB w){k:Nat}(IH:dG k)
  (h0:0<=s) (h1:s+35184372088832*((k:Int)+2)<=2305843009213693952) (h2:0<=l) (h3:l+1+(k:Int)<=100000)
  {ga gb:Option Addr} {b o cap la b' o' cap' lb:Nat} {xs ys:List Nat} (hxl:xs.length=la) (hR:Rep w ga b o cap xs) (hdx:ao xs) (hyl:ys.length=lb) (hR':Rep w gb b' o' cap' ys) (hdy:ao ys) (hla:la<=16384) (hlb:lb<=16384) (ha:1<=la) (hb:1<=lb) (hk:k=min la lb):
  Calls Tryz.prog 107 #[.pointer (some ⟨gm,0,none⟩),.slice ga la cap,.slice gb lb cap',.int .i64 (k:Int)] w fun e w'=>∃ r,e=.returned r/\bu w gm gt gk ge g s l m T (af xs*af ys) (fA T.B T.D T.N 2 (max la lb) (min la lb)) (jq k+1) r w':=by
 obtain⟨q,q1,q2,q3⟩:=NZ (n:=max la lb) (k:=k) (by omega) (by omega)
 by_cases hsw:la<lb
 ·have e1:k=la:=by omega
  have e2:max la lb=lb:=by omega
  have e3:min la lb=la:=by omega
  rw[e2]at q1 q2 q3
  rw[e2,e3]
  subst e1
  obtain rfl:=hR'.head (by omega)
  rw[Nat.mul_comm]
  exact Bq w gm gt gk ge g s l m T ga b' o' cap' lb b o cap k q ys xs IH hla (by omega) hlb hsw hE hT h0 h1 h2 h3 hR' hyl hdy hR hxl hdx q1 q2 (by omega)
 ·have e1:k=lb:=by omega
  have e2:max la lb=la:=by omega
  have e3:min la lb=lb:=by omega
  rw[e2]at q1 q2 q3
  rw[e2,e3]
  subst e1
  obtain rfl:=hR.head (by omega)
  exact Bo w gm gt gk ge g s l m T gb b o cap la b' o' cap' k q xs ys IH hlb (by omega) hla (by omega) hE hT h0 h1 h2 h3 hR hxl hdx hR' hyl hdy q1 q2 (by omega)
end Go.Proofs.YtgcnhfgpflncaaaGreatDoor
/- times and square of the landed code:rows as they are,by the route of their lengths. -/
namespace Go.Proofs.YtgcnhfgpflncaaaGreatDoor
open Go.RowKit
theorem ON(T:Tab)(n m:Int):qM T.clamp n m=qM T n m:=by unfold qM;rw[T.B_clamp,T.D_clamp,T.N_clamp]
set_option maxHeartbeats 1600000 in
theorem dL{T:Tab}{w:World}{g:Nat}(h:lJ w g T)(n m:Int):
  Calls Tryz.prog 99 #[.pointer (some ⟨g,0,none⟩),.int .i64 n,.int .i64 m] w fun e w'=>e=.returned (.int .i64 (qM T n m))/\Below w.heap.size w w':=by
 have CR:=hide (fun w=>zw T.clamp n m w)
 rw[ON]at CR
 have c3:w.cell? ⟨g,3,none⟩=some (.int .i64 T.clamp.b):=h 0 (by decide)
 have c4:w.cell? ⟨g,4,none⟩=some (.int .i64 T.clamp.t):=h 1 (by decide)
 have c5:w.cell? ⟨g,5,none⟩=some (.int .i64 T.clamp.n):=h 2 (by decide)
 have c6:w.cell? ⟨g,6,none⟩=some (.int .i64 T.clamp.d):=h 3 (by decide)
 have c7:w.cell? ⟨g,7,none⟩=some (.int .i64 T.clamp.r):=h 4 (by decide)
 have c8:w.cell? ⟨g,8,none⟩=some (.int .i64 T.clamp.l):=h 5 (by decide)
 have c9:w.cell? ⟨g,9,none⟩=some (.int .i64 T.clamp.x):=h 6 (by decide)
 have c10:w.cell? ⟨g,10,none⟩=some (.int .i64 T.clamp.p):=h 7 (by decide)
 have c11:w.cell? ⟨g,11,none⟩=some (.int .i64 T.clamp.k):=h 8 (by decide)
 have c12:w.cell? ⟨g,12,none⟩=some (.int .i64 T.clamp.s):=h 9 (by decide)
 have c13:w.cell? ⟨g,13,none⟩=some (.int .i64 T.clamp.e):=h 10 (by decide)
 clear h
 unfold Tab.val at CR
 generalize T.clamp.b=t0 at CR c3
 generalize T.clamp.t=t1 at CR c4
 generalize T.clamp.n=t2 at CR c5
 generalize T.clamp.d=t3 at CR c6
 generalize T.clamp.r=t4 at CR c7
 generalize T.clamp.l=t5 at CR c8
 generalize T.clamp.x=t6 at CR c9
 generalize T.clamp.p=t7 at CR c10
 generalize T.clamp.k=t8 at CR c11
 generalize T.clamp.s=t9 at CR c12
 generalize T.clamp.e=t10 at CR c13
 go_enter Tryz.func99,Tryz.ntmps99
 go_wp2_with (go_at_call 127;refine(ae CR _).mono ?_;rintro e w1 ⟨rfl,b1⟩)
 go_ret
 exact⟨rfl,b1⟩
set_option maxRecDepth 100000 in
set_option maxHeartbeats 1600000 in
theorem zA{w:World}{gm gt gk ge g:Nat}{s l m:Int}{T:Tab}(hE:aC w gm gt gk ge g s l m T){ga gb:Option Addr}{cap cap' la lb:Nat}(hla:la<=16384)(hlb:lb<=16384){Q:Value->World->Prop}
  (C:∀ W,Below w.heap.size w W->Calls Tryz.prog 108 #[.pointer (some ⟨gm,0,none⟩),.int .i64 (qM T (la:Int) (lb:Int)),.slice ga la cap,.slice gb lb cap'] W fun e w'=>∃ r b,e=.returned (.tuple #[r,.bool b])/\Q r w'):
  Calls Tryz.prog 84 #[.pointer (some ⟨gm,0,none⟩),.slice ga la cap,.slice gb lb cap'] w fun e w'=>∃ r,e=.returned r/\Q r w':=by
 have HC:=hide C
 have CR:=hide (dL hE.toom.kara.tab (la:Int) (lb:Int))
 obtain⟨e0,e1,e2,e3⟩:=hE.way
 obtain⟨M,hM⟩:∃ M,max la lb=M:=⟨_,rfl⟩
 have m1:max (la:Int) (lb:Int)=(M:Int):=by omega
 have m2:¬16384<(M:Int):=by omega
 generalize qM T (la:Int) (lb:Int)=R at *
 clear C hE hla hlb hM
 go_enter Tryz.func84,Tryz.ntmps84
 go_wp2_with fail
 refine(ae CR).mono ?_
 rintro e w1 ⟨rfl,b1⟩
 clear CR
 go_wp2_with fail
 refine(ae HC _ b1).mono ?_
 rintro e w2 ⟨r,b,rfl,h⟩
 have H:=hide h
 clear h HC
 go_wp2
 go_ret
 exact⟨_,rfl,ae H⟩
set_option maxRecDepth 100000 in
set_option maxHeartbeats 1600000 in
theorem K9{w:World}{gm gt gk ge g:Nat}{s l m:Int}{T:Tab}(hE:aC w gm gt gk ge g s l m T){ga:Option Addr}{cap la:Nat}(h:qM T (la:Int) (la:Int)=1){Q:Value->World->Prop}
  (C:∀ W,Below w.heap.size w W->Calls Tryz.prog 100 #[.pointer (some ⟨ge,0,none⟩),.slice ga la cap] W fun e w'=>∃ r,e=.returned r/\Q r w'):
  Calls Tryz.prog 76 #[.pointer (some ⟨gm,0,none⟩),.slice ga la cap] w fun e w'=>∃ r,e=.returned r/\Q r w':=by
 have HC:=hide C
 have CR:=hide (dL hE.toom.kara.tab (la:Int) (la:Int))
 rw[h]at CR
 have HE:=hide (fun W (b:Below w.heap.size w W)=>(hE.next b).way)
 obtain⟨e0,e1,e2,e3⟩:=hE.way
 have hmf:=fc
 clear C hE h
 go_enter Tryz.func76,Tryz.ntmps76
 go_wp2_with fail
 refine(ae CR).mono ?_
 rintro e w1 ⟨rfl,b1⟩
 clear CR e0 e1 e2 e3
 obtain⟨e0,e1,e2,e3⟩:=ae HE _ b1
 go_wp2_with fail
 refine(ae HC _ b1).mono ?_
 rintro e w2 ⟨r,rfl,h⟩
 have H:=hide h
 clear h HC
 go_wp2
 go_ret
 exact⟨_,rfl,ae H⟩
set_option maxRecDepth 100000 in
set_option maxHeartbeats 1600000 in
theorem Du{w:World}{gm gt gk ge g:Nat}{s l m:Int}{T:Tab}(hE:aC w gm gt gk ge g s l m T){ga:Option Addr}{cap la:Nat}(h:qM T (la:Int) (la:Int)=3){Q:Value->World->Prop}
  (C:∀ W,Below w.heap.size w W->Calls Tryz.prog 101 #[.pointer (some ⟨gk,0,none⟩),.slice ga la cap,.func (.func 76) #[.pointer (some ⟨gm,0,none⟩)] #[]] W fun e w'=>∃ r b,e=.returned (.tuple #[r,.bool b])/\Q r w'):
  Calls Tryz.prog 76 #[.pointer (some ⟨gm,0,none⟩),.slice ga la cap] w fun e w'=>∃ r,e=.returned r/\Q r w':=by
 have HC:=hide C
 have CR:=hide (dL hE.toom.kara.tab (la:Int) (la:Int))
 rw[h]at CR
 have HE:=hide (fun W (b:Below w.heap.size w W)=>(hE.next b).way)
 obtain⟨e0,e1,e2,e3⟩:=hE.way
 have hmf:=fc
 clear C hE h
 go_enter Tryz.func76,Tryz.ntmps76
 go_wp2_with fail
 refine(ae CR).mono ?_
 rintro e w1 ⟨rfl,b1⟩
 clear CR e0 e1 e2 e3
 obtain⟨e0,e1,e2,e3⟩:=ae HE _ b1
 go_wp2_with fail
 refine(ae HC _ b1).mono ?_
 rintro e w2 ⟨r,b,rfl,h⟩
 have H:=hide h
 clear h HC
 go_wp2
 go_ret
 exact⟨_,rfl,ae H⟩
set_option maxRecDepth 100000 in
set_option maxHeartbeats 1600000 in
theorem Hw{w:World}{gm gt gk ge g:Nat}{s l m:Int}{T:Tab}(hE:aC w gm gt gk ge g s l m T){ga:Option Addr}{cap la:Nat}(h:qM T (la:Int) (la:Int)=4){Q:Value->World->Prop}
  (C:∀ W,Below w.heap.size w W->Calls Tryz.prog 102 #[.pointer (some ⟨gt,0,none⟩),.slice ga la cap,.func (.func 76) #[.pointer (some ⟨gm,0,none⟩)] #[]] W fun e w'=>∃ r b,e=.returned (.tuple #[r,.bool b])/\Q r w'):
  Calls Tryz.prog 76 #[.pointer (some ⟨gm,0,none⟩),.slice ga la cap] w fun e w'=>∃ r,e=.returned r/\Q r w':=by
 have HC:=hide C
 have CR:=hide (dL hE.toom.kara.tab (la:Int) (la:Int))
 rw[h]at CR
 have HE:=hide (fun W (b:Below w.heap.size w W)=>(hE.next b).way)
 obtain⟨e0,e1,e2,e3⟩:=hE.way
 have hmf:=fc
 clear C hE h
 go_enter Tryz.func76,Tryz.ntmps76
 go_wp2_with fail
 refine(ae CR).mono ?_
 rintro e w1 ⟨rfl,b1⟩
 clear CR e0 e1 e2 e3
 obtain⟨e0,e1,e2,e3⟩:=ae HE _ b1
 go_wp2_with fail
 refine(ae HC _ b1).mono ?_
 rintro e w2 ⟨r,b,rfl,h⟩
 have H:=hide h
 clear h HC
 go_wp2
 go_ret
 exact⟨_,rfl,ae H⟩
set_option maxRecDepth 100000 in
set_option maxHeartbeats 1600000 in
theorem Hv{w:World}{gm gt gk ge g:Nat}{s l m:Int}{T:Tab}(hE:aC w gm gt gk ge g s l m T){ga:Option Addr}{cap la:Nat}(h:qM T (la:Int) (la:Int)=5){Q:Value->World->Prop}
  (C:∀ W,Below w.heap.size w W->Calls Tryz.prog 103 #[.pointer (some ⟨g,0,none⟩),.slice ga la cap] W fun e w'=>∃ r b,e=.returned (.tuple #[r,.bool b])/\Q r w'):
  Calls Tryz.prog 76 #[.pointer (some ⟨gm,0,none⟩),.slice ga la cap] w fun e w'=>∃ r,e=.returned r/\Q r w':=by
 have HC:=hide C
 have CR:=hide (dL hE.toom.kara.tab (la:Int) (la:Int))
 rw[h]at CR
 have HE:=hide (fun W (b:Below w.heap.size w W)=>(hE.next b).way)
 obtain⟨e0,e1,e2,e3⟩:=hE.way
 have hmf:=fc
 clear C hE h
 go_enter Tryz.func76,Tryz.ntmps76
 go_wp2_with fail
 refine(ae CR).mono ?_
 rintro e w1 ⟨rfl,b1⟩
 clear CR e0 e1 e2 e3
 obtain⟨e0,e1,e2,e3⟩:=ae HE _ b1
 go_wp2_with fail
 refine(ae HC _ b1).mono ?_
 rintro e w2 ⟨r,b,rfl,h⟩
 have H:=hide h
 clear h HC
 go_wp2
 go_ret
 exact⟨_,rfl,ae H⟩
set_option maxRecDepth 100000 in
set_option maxHeartbeats 1600000 in
theorem Hy{w:World}{gm gt gk ge g:Nat}{s l m:Int}{T:Tab}(hE:aC w gm gt gk ge g s l m T){ga:Option Addr}{cap la:Nat}(h:qM T (la:Int) (la:Int)=0){Q:Value->World->Prop}
  (C:∀ W,Below w.heap.size w W->Calls Tryz.prog 84 #[.pointer (some ⟨gm,0,none⟩),.slice ga la cap,.slice ga la cap] W fun e w'=>∃ r,e=.returned r/\Q r w'):
  Calls Tryz.prog 76 #[.pointer (some ⟨gm,0,none⟩),.slice ga la cap] w fun e w'=>∃ r,e=.returned r/\Q r w':=by
 have HC:=hide C
 have CR:=hide (dL hE.toom.kara.tab (la:Int) (la:Int))
 rw[h]at CR
 have HE:=hide (fun W (b:Below w.heap.size w W)=>(hE.next b).way)
 obtain⟨e0,e1,e2,e3⟩:=hE.way
 have hmf:=fc
 clear C hE h
 go_enter Tryz.func76,Tryz.ntmps76
 go_wp2_with fail
 refine(ae CR).mono ?_
 rintro e w1 ⟨rfl,b1⟩
 clear CR e0 e1 e2 e3
 obtain⟨e0,e1,e2,e3⟩:=ae HE _ b1
 go_wp2_with fail
 refine(ae HC _ b1).mono ?_
 rintro e w2 ⟨r,rfl,h⟩
 have H:=hide h
 clear h HC
 go_wp2
 go_ret
 exact⟨_,rfl,ae H⟩
theorem bu.back{w W w':World}{gm gt gk ge g:Nat}{s l m:Int}{T:Tab}{P C L C' L':Nat}{r:Value}(b:Below w.heap.size w W)(h:bu W gm gt gk ge g s l m T P C L r w')(hC:C=C')(hL:L<=L'):bu w gm gt gk ge g s l m T P C' L' r w':=by
 obtain⟨m',h1,h2,h3,h4,h5⟩:=h
 subst hC
 exact⟨m',h1.mono b.size,h2,h3,by omega,(Out.of_below b).trans h5⟩
theorem IL(T:Tab){n m:Nat}(hn:n<=16384)(hm:m<=16384):qM T (n:Int) (m:Int)=(rt T.B T.D T.N (max n m) (min n m):Int):=by
 by_cases h:m<=n
 ·rw[Nat.max_eq_left h,Nat.min_eq_right h,tP T h hn]
 ·rw[Nat.max_eq_right (by omega),Nat.min_eq_left (by omega),xh,tP T (by omega) hm]
theorem si(N:Nat):N<=16384->dG N:=by
 induction N using Nat.strongRecOn with
 |_ N ih=>
  intro hN w gm gt gk ge g s l m T ga gb b o cap la b' o' cap' lb xs ys hE hT h0 h1 h2 h3 hxl hR hdx hyl hR' hdy hla hlb
  refine(zA hE (by omega) (by omega) (Q:=bu w gm gt gk ge g s l m T (af xs*af ys) (eu T.B T.D T.N (max la lb) (min la lb)) (jq (max la lb))) (fun W bl=>?_)).mono ?_
  ·have E:=hE.next bl
   have tb:=hT.next bl
   have rX:=hR.next bl
   have rY:=hR'.next bl
   have hc:=FQ (n:=max la lb) (m:=min la lb) T.ent (by omega)
   have b1:=T.ent.b1
   have t1:=T.ent.t1
   rw[IL T (by omega) (by omega)]
   rcases fH (max la lb) (min la lb) (by omega) T.ent with⟨r,k1⟩|⟨r,k1,k2⟩|⟨r,k1,k2⟩|⟨r,k1,k2⟩|⟨r,k1,_,k2⟩|⟨r,k1,k2,k3,k4⟩
   ·rw[r]at hc ⊢
    refine(by_none W gm _ _ _ (by omega)).mono ?_
    rintro e w' ⟨rfl,rfl⟩
    have hz:af xs*af ys=0:=by
     rcases(show la=0\/lb=0 by omega)with h|h
     ·rw[List.length_eq_zero_iff.1 (by omega:xs.length=0)];simp[af]
     ·rw[List.length_eq_zero_iff.1 (by omega:ys.length=0)];simp[af]
    refine⟨_,_,rfl,bu.back bl (C:=0) (L:=0) ⟨m,by rw[hz];exact me _ _,by rw[Int.natCast_zero,Int.add_zero];exact E,Int.le_refl _,by omega,Out.refl _ _⟩ (by rw[<-hc];simp[fA]) (Nat.zero_le _)⟩
   ·rw[r]at hc ⊢
    refine(NT E (tU E h0 (by omega) hxl rX hdx hyl rY hdy (by omega) (by omega))).mono ?_
    rintro e w' ⟨v,rfl,hd⟩
    exact⟨v,true,rfl,hd.back bl hc (Nat.zero_le _)⟩
   ·rw[r]at hc ⊢
    refine(NU E rfl (by omega) (by omega) (uS E tb (ih (min la lb) (by omega) (by omega)) h0 (by omega) h2 (by omega) hxl rX hdx hyl rY hdy (by omega) (by omega) (by omega) (by omega) rfl)).mono ?_
    rintro e w' ⟨v,rfl,hd⟩
    exact⟨v,true,rfl,hd.back bl hc (jF (by omega) (by omega) (by omega))⟩
   ·rw[r]at hc ⊢
    refine(F4 E (Q:=fun v b w'=>b=true/\bu W gm gt gk ge g s l m T (af xs*af ys) (fA T.B T.D T.N 3 (max la lb) (min la lb)) (jq ((max la lb+1)/2+1)+1) v w') ((yU (ih ((max la lb+1)/2+1) (by omega) (by omega)) (by omega) E tb h0 (by omega) h2 (by omega) hxl rX hdx hyl rY hdy (by omega) (by omega) rfl (by omega) (Nat.le_refl _)).mono fun e w' hd=>?_)).mono ?_
    ·obtain⟨v,rfl,hz⟩:=eJ hd
     exact⟨v,true,rfl,rfl,hz⟩
    ·rintro e w' ⟨v,bb,rfl,rfl,hd⟩
     exact⟨v,true,rfl,hd.back bl hc (jF (by omega) (by omega) (by omega))⟩
   ·rw[r]at hc ⊢
    refine(J3 E (Q:=fun v b w'=>b=true/\bu W gm gt gk ge g s l m T (af xs*af ys) (fA T.B T.D T.N 4 (max la lb) (min la lb)) (jq ((max la lb+2)/3+1)+1) v w') ((zC (ih ((max la lb+2)/3+1) (by omega) (by omega)) (by omega) E tb h0 (by omega) h2 (by omega) hxl rX hdx hyl rY hdy (by omega) (by omega) rfl (by omega) (Nat.le_refl _)).mono fun e w' hd=>?_)).mono ?_
    ·obtain⟨v,rfl,hz⟩:=eJ hd
     exact⟨v,true,rfl,rfl,hz⟩
    ·rintro e w' ⟨v,bb,rfl,rfl,hd⟩
     exact⟨v,true,rfl,hd.back bl hc (jF (by omega) (by omega) (by omega))⟩
   ·rw[r]at hc ⊢
    refine(J2 E (Q:=fun v b w'=>b=true/\bu W gm gt gk ge g s l m T (af xs*af ys) (fA T.B T.D T.N 5 (max la lb) (min la lb)) 0 v w') ((yB E tb h0 (by omega) hxl rX hdx hyl rY hdy (by omega) (by omega) (by omega) (by omega)).mono fun e w' hd=>?_)).mono ?_
    ·obtain⟨v,rfl,hz⟩:=eJ hd
     exact⟨v,true,rfl,rfl,hz⟩
    ·rintro e w' ⟨v,bb,rfl,rfl,hd⟩
     exact⟨v,true,rfl,hd.back bl hc (Nat.zero_le _)⟩
  ·rintro e w' ⟨r,rfl,m',hd⟩
   exact⟨r,m',rfl,hd⟩
theorem FZ{B D N n:Nat}(e:oG B D N):kU B D N (rt B D N n n) n=iL B D N n:=by
 have e1:=e.b1
 unfold kU
 rcases fH n n (Nat.le_refl _) e with⟨r,_⟩|⟨r,_,_⟩|⟨r,h1,h2⟩|⟨r,h1,h2⟩|⟨r,h1,_,h2⟩|⟨r,_,_,_,_⟩
 ·rw[xF (Or.inl r),r];simp
 ·rw[AL r,r];simp
 ·omega
 ·rw[rW e r h1,r];simp
 ·rw[xC e r h1,r];simp
 ·rw[xB r,r];simp
theorem zq(N:Nat):N<=16384->iP N:=by
 induction N using Nat.strongRecOn with
 |_ N ih=>
  intro hN w gm gt gk ge g s l m T ga b o cap la xs hE hT h0 h1 h2 h3 hxl hR hdx hla
  suffices H:Calls Tryz.prog 76 #[.pointer (some ⟨gm,0,none⟩),.slice ga la cap] w fun e w'=>∃ r,e=.returned r/\bu w gm gt gk ge g s l m T (af xs*af xs) (iL T.B T.D T.N la) (jq la) r w' by
   refine H.mono ?_
   rintro e w' ⟨r,rfl,m',hd⟩
   exact⟨r,m',rfl,hd⟩
  have hc:=FZ (n:=la) T.ent
  have b1:=T.ent.b1
  have t1:=T.ent.t1
  have hrt:=IL T (n:=la) (m:=la) (by omega) (by omega)
  rw[Nat.max_self,Nat.min_self]at hrt
  rcases fH la la (Nat.le_refl _) T.ent with⟨r,k1⟩|⟨r,k1,k2⟩|⟨r,k1,k2⟩|⟨r,k1,k2⟩|⟨r,k1,_,k2⟩|⟨r,k1,k2,k3,k4⟩
  ·rw[r]at hc hrt
   refine Hy hE hrt (fun W bl=>?_)
   refine(si N hN W gm gt gk ge g s l m T ga ga b o cap la b o cap la xs xs (hE.next bl) (hT.next bl) h0 h1 h2 h3 hxl (hR.next bl) hdx hxl (hR.next bl) hdx hla hla).mono ?_
   rintro e w' ⟨v,m',rfl,hd⟩
   refine⟨v,rfl,bu.back bl ⟨m',hd⟩ ?_ (by rw[Nat.max_self];exact Nat.le_refl _)⟩
   rw[<-hc,Nat.max_self,Nat.min_self,jw r];simp[kU]
  ·rw[r]at hc hrt
   refine K9 hE hrt (fun W bl=>?_)
   refine(Ek (hE.next bl) h0 (by omega) hxl (hR.next bl) hdx (by omega)).mono ?_
   rintro e w' ⟨v,rfl,hd⟩
   exact⟨v,rfl,hd.back bl hc (Nat.zero_le _)⟩
  ·omega
  ·rw[r]at hc hrt
   refine Du hE hrt (fun W bl=>?_)
   refine(KV (ih ((la+1)/2+1) (by omega) (by omega)) (by omega) (hE.next bl) (hT.next bl) h0 (by omega) h2 (by omega) hxl (hR.next bl) hdx (by omega) rfl (by omega) (Nat.le_refl _)).mono ?_
   intro e w' hd
   obtain⟨v,rfl,hz⟩:=eJ hd
   exact⟨v,true,rfl,hz.back bl hc (jF (by omega) (by omega) (by omega))⟩
  ·rw[r]at hc hrt
   refine Hw hE hrt (fun W bl=>?_)
   refine(MM (ih ((la+2)/3+1) (by omega) (by omega)) (by omega) (hE.next bl) (hT.next bl) h0 (by omega) h2 (by omega) hxl (hR.next bl) hdx (by omega) rfl (by omega) (Nat.le_refl _)).mono ?_
   intro e w' hd
   obtain⟨v,rfl,hz⟩:=eJ hd
   exact⟨v,true,rfl,hz.back bl hc (jF (by omega) (by omega) (by omega))⟩
  ·rw[r]at hc hrt
   refine Hv hE hrt (fun W bl=>?_)
   refine(J9 (hE.next bl) (hT.next bl) h0 (by omega) hxl (hR.next bl) hdx (by omega) (by omega)).mono ?_
   intro e w' hd
   obtain⟨v,rfl,hz⟩:=eJ hd
   exact⟨v,true,rfl,hz.back bl hc (Nat.zero_le _)⟩
end Go.Proofs.YtgcnhfgpflncaaaGreatDoor
/- New,Mul,Sqr and By of the landed package mul. -/
namespace Go.Proofs.YtgcnhfgpflncaaaGreatDoor
open Go.RowKit
set_option maxHeartbeats 800000 in
theorem Dv(w:World)(ga:Option Addr)(b o cap n m:Nat)(xs:List Nat)(hl:xs.length=n)(hn:n<=1099511627776)(hR:Rep w ga b o cap xs)(hm:m=bY xs n):
  Calls Tryz.prog 77 #[.slice ga n cap] w fun e w'=>e=.returned (.slice ga m cap)/\w'=w:=by
 have hmn:m<=n:=by rw[hm];exact bo xs n
 have hcap:n<=cap:=by have:=hR.room;omega
 have CL:=hide (fun w' (h:w'=w)=>h▸len_any w ga b o cap n xs hl hn hR)
 rw[<-hm]at CL
 clear hm hR
 go_enter Tryz.func77,Tryz.ntmps77
 go_wp2_with fail
 refine(ae CL _ rfl).mono ?_
 rintro e w' ⟨rfl,rfl⟩
 go_wp2
 go_ret
 exact⟨rfl,rfl⟩
theorem pA{w:World}{v:Value}{n:Nat}(h:bh w v n):∃ ga b o cap xs,xs.length=wl n/\Rep w ga b o cap xs/\ao xs/\af xs=n/\wl n<=16384/\(∃ l,v=.slice ga l cap)/\Calls Tryz.prog 77 #[v] w fun e w'=>e=.returned (.slice ga (wl n) cap)/\w'=w:=by
 obtain⟨ga,b,o,cap,xs,rfl,hr,hd,hv,hl⟩:=h
 have e:=tz hd
 have hle:=dq hd
 rw[hv]at e hle
 refine⟨ga,b,o,cap,xs.take (wl n),by simp;omega,hr.take _ hle,aX hd _,?_,by omega,⟨_,rfl⟩,Dv w ga b o cap xs.length (wl n) xs rfl (by omega) hr e.symm⟩
 rw[<-e,kt,List.take_length,hv]
theorem Bw(T:Tab){n m:Nat}(hn:n<=16384)(hm:m<=16384):hU T (n:Int) (m:Int)=(eu T.B T.D T.N (max n m) (min n m):Nat):=by
 by_cases h:m<=n
 ·rw[Nat.max_eq_left h,Nat.min_eq_right h,re T h hn]
 ·rw[Nat.max_eq_right (by omega),Nat.min_eq_left (by omega),yD,re T (by omega) hm]
set_option maxHeartbeats 1600000 in
theorem vQ(w:World)(gm gt gk ge g:Nat)(s l m:Int)(T:Tab)(u v:Value)(A C:Nat)
  (hE:aC w gm gt gk ge g s l m T) (hT:TB w) (h0:0<=s) (h1:s<=1154047404513689600) (h2:0<=l) (h3:l<=1000) (hu:bh w u A) (hv:bh w v C):
  Calls Tryz.prog 65 #[.pointer (some ⟨gm,0,none⟩),u,v] w fun e w'=>∃ r m',e=.returned r/\ah w.heap.size w' r (A*C)/\aC w' gm gt gk ge g (s+hU T (wl A:Int) (wl C:Int)) l m' T/\m<=m'/\m'<=max m (l+(cZ (max (wl A) (wl C)):Int))/\Out (·=g) w w':=by
 obtain⟨ga,b,o,cap,xs,xl,rX,dX,vX,lX,⟨lu,rfl⟩,CX⟩:=pA hu
 obtain⟨gb,b',o',cap',ys,yl,rY,dY,vY,lY,⟨lv,rfl⟩,CY⟩:=pA hv
 have CT:=hide (si 16384 (by omega) w gm gt gk ge g s l m T ga gb b o cap (wl A) b' o' cap' (wl C) xs ys hE hT h0 (by omega) h2 (by omega) xl rX dX yl rY dY lX lY)
 have HCX:=hide CX
 have HCY:=hide CY
 rw[vX,vY, <-Bw T lX lY]at CT
 have hd:=Aq (n:=max (wl A) (wl C)) (by omega)
 suffices H:Calls Tryz.prog 65 #[.pointer (some ⟨gm,0,none⟩),.slice ga lu cap,.slice gb lv cap'] w fun e w'=>∃ r m',e=.returned r/\ah w.heap.size w' r (A*C)/\aC w' gm gt gk ge g (s+hU T (wl A:Int) (wl C:Int)) l m' T/\m<=m'/\m'<=max m (l+(jq (max (wl A) (wl C)):Nat))/\Out (·=g) w w' by
  refine H.mono ?_
  rintro e w' ⟨r,m',k1,k2,k3,k4,k5,k6⟩
  exact⟨r,m',k1,k2,k3,k4,by omega,k6⟩
 generalize hU T (wl A:Int) (wl C:Int)=K at *
 generalize jq (max (wl A) (wl C))=L at *
 generalize wl A=la at *
 generalize wl C=lb at *
 clear hu hv rX rY dX dY vX vY CX CY xl yl hd hE hT h0 h1 h2 h3
 go_enter Tryz.func65,Tryz.ntmps65
 go_wp2_with fail
 refine(ae HCX).mono ?_
 rintro e w1 ⟨rfl,hw⟩
 obtain rfl:=hw.symm
 clear hw
 go_wp2_with fail
 refine(ae HCY).mono ?_
 rintro e w1 ⟨rfl,hw⟩
 obtain rfl:=hw.symm
 clear hw
 go_wp2_with fail
 refine(ae CT).mono ?_
 rintro e w1 ⟨r,m',rfl,h⟩
 have H:=hide h
 clear h CT
 go_wp2
 go_ret
 exact⟨r,m',rfl,ae H⟩
theorem EA:uL:=fun w gm gt gk ge g s l m T u v A C hE hT h0 h1 h2 h3 hu hv=>vQ w gm gt gk ge g s l m T u v A C hE hT h0 (by omega) h2 h3 hu hv
set_option maxHeartbeats 1600000 in
theorem EC:uM:=by
 intro w gm gt gk ge g s l m T u A hE hT h0 h1 h2 h3 hu
 obtain⟨ga,b,o,cap,xs,xl,rX,dX,vX,lX,⟨lu,rfl⟩,CX⟩:=pA hu
 have CT:=hide (zq 16384 (by omega) w gm gt gk ge g s l m T ga b o cap (wl A) xs hE hT h0 (by omega) h2 (by omega) xl rX dX lX)
 have HCX:=hide CX
 rw[vX, <-AH T lX]at CT
 have hd:=Aq (n:=wl A) (by omega)
 suffices H:Calls Tryz.prog 58 #[.pointer (some ⟨gm,0,none⟩),.slice ga lu cap] w fun e w'=>∃ r m',e=.returned r/\ah w.heap.size w' r (A*A)/\aC w' gm gt gk ge g (s+OR T (wl A:Int)) l m' T/\m<=m'/\m'<=max m (l+(jq (wl A):Nat))/\Out (·=g) w w' by
  refine H.mono ?_
  rintro e w' ⟨r,m',k1,k2,k3,k4,k5,k6⟩
  exact⟨r,m',k1,k2,k3,k4,by omega,k6⟩
 generalize OR T (wl A:Int)=K at *
 generalize jq (wl A)=L at *
 generalize wl A=la at *
 clear hu rX dX vX CX xl hd hE hT h0 h1 h2 h3
 go_enter Tryz.func58,Tryz.ntmps58
 go_wp2_with fail
 refine(ae HCX).mono ?_
 rintro e w1 ⟨rfl,hw⟩
 obtain rfl:=hw.symm
 clear hw
 go_wp2_with fail
 refine(ae CT).mono ?_
 rintro e w1 ⟨r,m',rfl,h⟩
 have H:=hide h
 clear h CT
 go_wp2
 go_ret
 exact⟨r,m',rfl,ae H⟩
end Go.Proofs.YtgcnhfgpflncaaaGreatDoor
/- The small calls of recip:a power of two,whether an exponent PH be,how far two are apart;what the engines below do,as its own. -/
namespace Go.Proofs.YtgcnhfgpflncaaaGreatDoor
open Go.RowKit
set_option maxHeartbeats 800000 in
theorem iq(w:World)(z:Int)(k:Nat)(hz:(k:Int)=min (max z 0) 1048576):
  Calls Tryz.prog 116 #[.int .i64 z] w fun e w'=>∃ r,e=.returned r/\ah w.heap.size w' r (2^k)/\Below w.heap.size w w':=by
 have C1:=hide (kK w 1 (by omega))
 have C2:Hid (∀ W u,ah w.heap.size W u 1->Calls Tryz.prog 57 #[u,.int .i64 z] W fun e w'=>∃ r,e=.returned r/\ah W.heap.size w' r (2^k)/\Below W.heap.size W w'):=fun W u h=>by
  have:=ir W u z 1 k hz (h.toIn (p:=1) (by decide) (by omega))
  rw[Nat.one_mul]at this
  exact this
 clear hz
 generalize 2^k=P at *
 go_enter Tryz.func116,Tryz.ntmps116
 go_wp2_with fail
 refine(ae C1).mono ?_
 rintro e w1 ⟨u,rfl,n1,b1⟩
 have C2:=hide (ae C2 _ _ n1)
 clear C1 n1
 go_wp2_with fail
 refine(ae C2).mono ?_
 rintro e w2 ⟨r,rfl,n2,b2⟩
 have N2:=hide (n2.mono b1.size)
 have bb:=hide (ag b1 b2)
 clear C2 n2 b1 b2
 go_wp2
 go_ret
 exact⟨r,rfl,ae N2,ae bb⟩
set_option maxHeartbeats 800000 in
theorem jD(w:World)(z:Int)(b:Bool)(hb:b=decide (0<=z/\z<=1048576)):
  Calls Tryz.prog 115 #[.int .i64 z] w fun e w'=>e=.returned (.bool b)/\w'=w:=by
 by_cases h0:0<=z
 ·by_cases h1:z<=1048576
  ·obtain rfl:b=true:=by rw[hb];simp[h0,h1]
   clear hb
   go_enter Tryz.func115,Tryz.ntmps115
   go_wp2
   go_ret
   exact⟨rfl,rfl⟩
  ·obtain rfl:b=false:=by rw[hb];simp[h1]
   clear hb
   go_enter Tryz.func115,Tryz.ntmps115
   go_wp2
   go_ret
   exact⟨rfl,rfl⟩
 ·obtain rfl:b=false:=by rw[hb];simp[h0]
  clear hb
  go_enter Tryz.func115,Tryz.ntmps115
  go_wp2
  go_ret
  exact⟨rfl,rfl⟩
set_option maxHeartbeats 800000 in
theorem KA(w:World)(u v:Value)(A C:Nat)(hu:aL w u A)(hv:aL w v C):
  Calls Tryz.prog 182 #[u,v] w fun e w'=>∃ r b R,e=.returned (.tuple #[r,.bool b])/\ah w.heap.size w' r R/\((b=false/\A=C+R)\/(b=true/\A+R=C))/\Below w.heap.size w w':=by
 have C1:=hide (gA w u v A C hu hv)
 have C2:Hid (∀ W,Below w.heap.size w W->A<C->Calls Tryz.prog 45 #[v,u] W (nZ W C A)):=fun W b _=>gA W v u C A (hv.next b) (hu.next b)
 obtain⟨ga,la,ca,rfl⟩:=hu.is
 obtain⟨gb,lb,cb,rfl⟩:=hv.is
 clear hu hv
 go_enter Tryz.func182,Tryz.ntmps182
 go_wp2_with fail
 refine(ae C1).mono ?_
 rintro e w1 ⟨b1,⟨hle,r,rfl,n1⟩|⟨hlt,rfl⟩⟩
 ·have N1:=hide n1
  have H:Hid (A=C+(A-C)):=by show _=_;omega
  clear C1 C2 n1 hle
  generalize A-C=R at *
  go_wp2
  go_ret2
  exact⟨r,false,R,rfl,ae N1,.inl ⟨rfl,ae H⟩,b1⟩
 ·have C2:=hide (ae C2 _ b1 hlt)
  clear C1
  go_wp2_with fail
  refine(ae C2).mono ?_
  rintro e w2 ⟨b2,⟨hle,r,rfl,n1⟩|⟨hlt2,rfl⟩⟩
  ·have N1:=hide (n1.mono b1.size)
   have H:Hid (A+(C-A)=C):=by show _=_;omega
   have bb:=ag b1 b2
   clear C2 n1 hle hlt b2 b1
   generalize C-A=R at *
   go_wp2
   go_ret2
   exact⟨r,true,R,rfl,ae N1,.inr ⟨rfl,ae H⟩,bb⟩
  ·omega
theorem aC.apart{w:World}{gm gt gk ge g b:Nat}{s l m:Int}{T:Tab}{zs:List Nat}(h:aC w gm gt gk ge g s l m T)(k:aB w b zs):b≠g:=by
 intro e
 subst e
 have h0:=h.met.c0
 by_cases hz:0<zs.length
 ·rw[k.cell 0 hz]at h0
  cases h0
 ·have:zs=[]:=by cases zs with|nil=>rfl|cons=>simp at hz
  subst this
  rw[cell_of_row w b 0 _ _ (0,0) k]at h0
  simp[cellsOf]at h0
theorem aA.newW{w w':World}{gr gd gm gt gk ge g:Nat}{s l m:Int}{T:Tab}(h:aA w gr gd gm gt gk ge g s l m T)(o:Out (·=g) w w'){B:Nat}{v:Value}{n:Nat}(r:ah B w v n):ah B w' v n:=
 r.turn (fun k _ hb=>o.block k hb.lt (h.div.mul.apart hb))
theorem aA.newB{w w':World}{gr gd gm gt gk ge g:Nat}{s l m:Int}{T:Tab}(h:aA w gr gd gm gt gk ge g s l m T)(o:Out (·=g) w w'){B M:Nat}{v:Value}{n:Nat}(r:aS B M w v n):aS B M w' v n:=by
 obtain⟨xs,hc,hv,r|⟨k,ys,h1,h2,rfl,hk,hl⟩⟩:=r
 ·exact⟨xs,hc,hv,.inl r⟩
 ·exact⟨xs,hc,hv,.inr ⟨k,ys,h1,h2,rfl,(o.block k hk.lt (h.div.mul.apart hk)).trans hk,hl⟩⟩
theorem aA.inW{w w':World}{gr gd gm gt gk ge g:Nat}{s l m:Int}{T:Tab}(h:aA w gr gd gm gt gk ge g s l m T)(o:Out (·=g) w w'){v:Value}{n:Nat}(r:aL w v n):aL w' v n:=by
 obtain⟨ga,b,oo,cap,xs,rfl,hr,hd,hv,hl⟩:=r
 exact⟨ga,b,oo,cap,xs,rfl,h.rep o hr,hd,hv,hl⟩
theorem aA.way{w:World}{gr gd gm gt gk ge g:Nat}{s l m:Int}{T:Tab}(h:aA w gr gd gm gt gk ge g s l m T):w.cell? ⟨gr,0,none⟩=some (.pointer (some ⟨gd,0,none⟩))/\w.cell? ⟨gd,0,none⟩=some (.pointer (some ⟨gm,0,none⟩)):=⟨h.ptr,h.div.ptr⟩
theorem aA.tb{w w':World}{gr gd gm gt gk ge g:Nat}{s l m:Int}{T:Tab}(h:aA w gr gd gm gt gk ge g s l m T)(o:Out (·=g) w w')(t:TB w):TB w':=h.div.mul.tb o t
theorem bh.wlM{w:World}{v:Value}{n:Nat}(h:bh w v n):wl n<=16384:=by
 obtain⟨ga,b,o,cap,xs,rfl,hr,hd,hv,hl⟩:=h
 rw[<-hv];exact Nat.le_trans (dq hd) hl
theorem ah.wlM{B:Nat}{w:World}{v:Value}{n:Nat}(h:ah B w v n)(hn:wl n<=16384):bh w v n:=h.toM (dw hn) (Nat.le_refl _)
theorem ah.wlW{B:Nat}{w:World}{v:Value}{n:Nat}(h:ah B w v n)(hn:wl n<=1073741824):aL w v n:=h.toIn (dw hn) (Nat.le_refl _)
theorem ip(w:World)(gr gd gm gt gk ge g:Nat)(s l m:Int)(T:Tab)(u v:Value)(A C:Nat)
  (hE:aA w gr gd gm gt gk ge g s l m T) (hT:TB w) (h0:0<=s) (h1:s<=1154047404513689600) (h2:0<=l) (h3:l<=1000) (hu:bh w u A) (hv:bh w v C):
  Calls Tryz.prog 65 #[.pointer (some ⟨gm,0,none⟩),u,v] w fun e w'=>∃ r s' m',e=.returned r/\ah w.heap.size w' r (A*C)/\aA w' gr gd gm gt gk ge g s' l m' T/\s<=s'/\s'<=s+((8*(wl A*wl C):Nat):Int)/\m<=m'/\m'<=max m (l+(cZ (max (wl A) (wl C)):Int))/\Out (·=g) w w':=by
 refine(vQ w gm gt gk ge g s l m T u v A C hE.div.mul hT h0 h1 h2 h3 hu hv).mono ?_
 rintro e w' ⟨r,m',rfl,nr,E,k1,k2,o⟩
 obtain⟨c1,c2⟩:=vf T (wl A) (wl C) hu.wlM hv.wlM
 exact⟨r,_,m',rfl,nr,hE.kept o (hE.div.kept o E),by omega,by omega,k1,k2,o⟩
theorem ky(w:World)(gr gd gm gt gk ge g:Nat)(s l m:Int)(T:Tab)(u v:Value)(A C:Nat)
  (hE:aA w gr gd gm gt gk ge g s l m T) (h0:0<=s) (h1:s<=1152921504606846976) (h2:0<=l) (h3:l<=1000) (hu:bh w u A) (hv:bh w v C) (hC:0<C):
  Calls Tryz.prog 71 #[.pointer (some ⟨gd,0,none⟩),u,v] w fun e w'=>∃ q r gq gx,e=.returned (.tuple #[q,r,.int .i64 0])/\aS gq (gq+1) w' q (A/C)/\aS gx (gx+1) w' r (A%C)/\(gq≠gx/\w.heap.size<=gq/\w.heap.size<=gx)/\aA w' gr gd gm gt gk ge g (s+(nI A C:Int)) l m T/\Out (·=g) w w':=by
 refine(Ez w gd gm gt gk ge g s l m T u v A C hE.div h0 h1 h2 h3 hu hv hC).mono ?_
 rintro e w' ⟨q,r,gq,gx,m',rfl,nq,nr,hg,E,rfl,o⟩
 exact⟨q,r,gq,gx,rfl,nq,nr,hg,hE.kept o E,o⟩
theorem dj{w:World}{v:Value}{n b:Nat}(h:aL w v n)(b0:2^b<=n)(b1:n<2^(b+1)):Calls Tryz.prog 35 #[v] w fun e w'=>e=.returned (.int .i64 ((b+1:Nat):Int))/\w'=w:=by
 obtain⟨L,_,hL,C⟩:=pB h
 have:0<n:=Nat.lt_of_lt_of_le (Nat.pow_pos (by omega)) b0
 rw[pn hL (Or.inr ⟨this,by omega,by simpa using b0,b1⟩)]at C
 exact C
theorem iQ{n p:Nat}(h:0<n)(hw:wl n<=p):∃ b,b<64*p/\2^b<=n/\n<2^(b+1):=by
 refine⟨n.log2,?_,Nat.log2_self_le (by omega),Nat.lt_log2_self⟩
 refine(Nat.log2_lt (by omega)).2 ?_
 have:=dw hw
 rw[show(18446744073709551616:Nat)=2^64 by decide, <-Nat.pow_mul]at this
 exact this
theorem aL.one{w:World}{v:Value}{m n:Nat}(h:aL w v m)(k:aL w v n):m=n:=by
 obtain⟨ga,b,o,cap,xs,rfl,hr,_,rfl,_⟩:=h
 obtain⟨ga',b',o',cap',ys,e,kr,_,rfl,_⟩:=k
 obtain⟨rfl,hl,rfl⟩:=Value.slice.inj e
 have:xs=ys:=by
  refine List.ext_getElem hl (fun j h1 h2=>?_)
  have e1:=(hr.head (by omega)).symm.trans (kr.head (by omega))
  obtain⟨rfl,rfl⟩:b=b'/\o=o':=by simpa using e1
  have e2:=(hr.cell j h1).symm.trans (kr.cell j h2)
  simp[List.getD_eq_getElem?_getD,h1,h2]at e2
  omega
 rw[this]
theorem xf:∃ f:World->Value->Nat,∀ w v n,aL w v n->f w v=n:=by
 have:∀ p:World×Value,∃ k:Nat,∀ n,aL p.1 p.2 n->k=n:=fun p=>by
  by_cases h:∃ n,aL p.1 p.2 n
  ·obtain⟨n,hn⟩:=h
   exact⟨n,fun m hm=>hn.one hm⟩
  ·exact⟨0,fun n hn=>absurd ⟨n,hn⟩ h⟩
 obtain⟨f,hf⟩:=Classical.axiomOfChoice this
 exact⟨fun w v=>f (w,v),fun w v n h=>hf (w,v) n h⟩
end Go.Proofs.YtgcnhfgpflncaaaGreatDoor
/- Newton's step. -/
namespace Go.Proofs.YtgcnhfgpflncaaaGreatDoor
open Go.RowKit
theorem fk{a b:Nat}(h:a<=b)(hb:b<=100000):cZ a<=cZ b:=by
 have:=dH b a h (by omega)
 unfold cZ
 omega
def gI(w:World)(gr gd gm gt gk ge g:Nat)(s l m:Int)(T:Tab)(D b k c N:Nat)(t:Nat)(e:Ending)(w':World):Prop:=
 ∃ r X s' m',e=.returned r/\ah w.heap.size w' r X/\cG t D (b+1) k X/\aA w' gr gd gm gt gk ge g s' l m' T/\s<=s'/\s'<=s+(c:Int)/\m<=m'/\m'<=max m (l+(cZ N:Int))/\Out (·=g) w w'
set_option maxRecDepth 100000 in
set_option maxHeartbeats 3200000 in
theorem Jd(w:World)(gr gd gm gt gk ge g:Nat)(s l m:Int)(T:Tab)(d y:Value)(D Y b h k N:Nat)
  (hE:aA w gr gd gm gt gk ge g s l m T) (hT:TB w) (h0:0<=s) (h1:s<=1154047404513689600-4294967296) (h2:0<=l) (h3:l<=1000) (hd:bh w d D) (hy:bh w y Y)
  (b0:2^b<=D) (b1:D<2^(b+1)) (hb:b+1<=k+4) (hk:60<k) (hkb:k+(b+1)<=1048576) (hh:h=k/2+4) (hN:cG 8 D (b+1) h Y) (hN1:(k+67)/64<=N) (hN2:N<=16384):
  Calls Tryz.prog 155 #[.pointer (some ⟨gr,0,none⟩),d,y,.int .i64 (h:Int),.int .i64 (k:Int)] w (gI w gr gd gm gt gk ge g s l m T D b k (zt k) N 7):=by
 obtain⟨bb,hbb⟩:∃ bb,bb=b+1:=⟨_,rfl⟩
 obtain⟨hs,hhs⟩:∃ hs,hs=h+bb:=⟨_,rfl⟩
 obtain⟨cut,hcut⟩:∃ cut,cut=h+(b+1)-k-4:=⟨_,rfl⟩
 obtain⟨e2,he2⟩:∃ e2,e2=2*h+(b+1)-k-cut:=⟨_,rfl⟩
 obtain⟨kh,hkh⟩:∃ kh,kh=k-h:=⟨_,rfl⟩
 have wY:wl Y<=(k/2+69)/64:=by have:=tu b0 hN;omega
 have wD:wl D<=(k+67)/64:=by have:=cL b1;omega
 have cy:8*(wl Y*wl D)<=8*((k/2+69)/64*((k+67)/64)):=Nat.mul_le_mul_left 8 (Nat.mul_le_mul wY wD)
 have hst:=zu (k:=k) (by omega)
 have hst2:zt k=8*((k/2+69)/64*((k+67)/64))+8*((k/2+69)/64*((k+64-k/2)/64)):=by unfold zt;rw[Nat.mul_add]
 have d1:cZ (max (wl Y) (wl D))<=cZ N:=fk (by omega) (by omega)
 have wYD:=gG Y D
 have CB:=hide (fun W (bw:Below w.heap.size w W)=>dj (hd.inW.next bw) b0 b1)
 rw[<-hbb]at CB
 have C1:Hid (∀ W,Below w.heap.size w W->Calls Tryz.prog 116 #[.int .i64 (hs:Int)] W fun e w'=>∃ r,e=.returned r/\ah w.heap.size w' r (2^hs)/\Below w.heap.size w w'):=fun W bw=>(iq W hs hs (by omega)).mono fun e w' ⟨r,he,hn,hb⟩=>⟨r,he,hn.mono bw.size,ag bw hb⟩
 have C2:Hid (∀ W u,Below w.heap.size w W->ah w.heap.size W u (2^hs)->Calls Tryz.prog 65 #[.pointer (some ⟨gm,0,none⟩),y,d] W fun e w'=>∃ r s' m',e=.returned r/\ah w.heap.size w' r (Y*D)/\ah w.heap.size w' u (2^hs)/\aA w' gr gd gm gt gk ge g s' l m' T/\s<=s'/\s'<=s+((8*((k/2+69)/64*((k+67)/64)):Nat):Int)/\m<=m'/\m'<=max m (l+(cZ N:Int))/\Out (·=g) w w'):=fun W u bw nu=>by
  refine(ip W gr gd gm gt gk ge g s l m T y d Y D (hE.next bw) (hT.next bw) h0 (by omega) h2 h3 (hy.next bw) (hd.next bw)).mono ?_
  rintro e w' ⟨r,s',m',k1,k2,k3,k4,k5,k6,k7,k8⟩
  exact⟨r,s',m',k1,k2.mono bw.size,(hE.next bw).newW k8 nu,k3,k4,by omega,k6,by omega,(Out.of_below bw).trans k8⟩
 have w2h:wl (2^hs)<=1073741824:=by have:=cL (n:=2^hs) (b:=hs+1) (by rw[Nat.pow_succ];have:=Nat.two_pow_pos hs;omega);omega
 have C3:Hid (∀ W u v,ah w.heap.size W u (2^hs)->ah w.heap.size W v (Y*D)->Calls Tryz.prog 182 #[u,v] W fun e w'=>∃ r bl R,e=.returned (.tuple #[r,.bool bl])/\ah W.heap.size w' r R/\((bl=false/\2^hs=Y*D+R)\/(bl=true/\2^hs+R=Y*D))/\Below W.heap.size W w'):=fun W u v nu nv=>KA W u v (2^hs) (Y*D) (nu.wlW w2h) (nv.wlW (by have:=hd.wlM;have:=hy.wlM;omega))
 have HR:Hid (∀ R,(2^hs=Y*D+R\/2^hs+R=Y*D)->R<2*D):=fun R hx=>Ig hN (by rw[<-hbb, <-hhs];exact hx)
 have C4:Hid (∀ W v R,ah w.heap.size W v R->R<2*D->Calls Tryz.prog 36 #[v,.int .i64 (cut:Int)] W fun e w'=>∃ r,e=.returned r/\ah W.heap.size w' r (R/2^cut)/\Below W.heap.size W w'):=fun W v R nv hR=>gi W v cut R cut (by omega) (nv.wlW (by
  have:=cL (n:=R) (b:=b+2) (by rw[Nat.pow_succ];omega)
  omega))
 have C5:Hid (∀ W v R s1 m1,ah w.heap.size W v (R/2^cut)->R<2*D->aA W gr gd gm gt gk ge g s1 l m1 T->Out (·=g) w W->s<=s1->s1<=s+((8*((k/2+69)/64*((k+67)/64)):Nat):Int)->m<=m1->m1<=max m (l+(cZ N:Int))->Calls Tryz.prog 65 #[.pointer (some ⟨gm,0,none⟩),y,v] W fun e w'=>∃ r s' m',e=.returned r/\ah w.heap.size w' r (Y*(R/2^cut))/\wl (Y*(R/2^cut))<=40000/\aA w' gr gd gm gt gk ge g s' l m' T/\s<=s'/\s'<=s+(zt k:Int)/\m<=m'/\m'<=max m (l+(cZ N:Int))/\Out (·=g) w w'):=fun W v R s1 m1 nv hR E o k1 k2 k3 k4=>by
  have wR:=LI (k:=k) b1 (by omega) hcut hR
  have cr:8*(wl Y*wl (R/2^cut))<=8*((k/2+69)/64*((k+64-k/2)/64)):=Nat.mul_le_mul_left 8 (Nat.mul_le_mul wY (by omega))
  have d2:cZ (max (wl Y) (wl (R/2^cut)))<=cZ N:=fk (by omega) (by omega)
  have wm:=gG Y (R/2^cut)
  refine(ip W gr gd gm gt gk ge g s1 l m1 T y v Y (R/2^cut) E (hE.tb o hT) (by omega) (by omega) h2 h3 (hE.inM o hy) (nv.wlM (by omega))).mono ?_
  rintro e w' ⟨r,s',m',j1,j2,j3,j4,j5,j6,j7,j8⟩
  exact⟨r,s',m',j1,j2.mono o.size,by omega,j3,by omega,by omega,by omega,by omega,o.trans j8⟩
 have C6:Hid (∀ W v Z,ah w.heap.size W v Z->wl Z<=40000->Calls Tryz.prog 36 #[v,.int .i64 (e2:Int)] W fun e w'=>∃ r,e=.returned r/\ah W.heap.size w' r (Z/2^e2)/\Below W.heap.size W w'):=fun W v Z nv hZ=>gi W v e2 Z e2 (by omega) (nv.wlW (by omega))
 have C7:Hid (∀ W,Out (·=g) w W->Calls Tryz.prog 57 #[y,.int .i64 (kh:Int)] W fun e w'=>∃ r,e=.returned r/\ah W.heap.size w' r (Y*2^kh)/\Below W.heap.size W w'):=fun W o=>ir W y kh Y kh (by omega) (hE.inW o hy.inW)
 have w8:wl (Y*2^kh)<=40000:=by
  have a:=gG Y (2^kh)
  have:=cL (n:=2^kh) (b:=kh+1) (by rw[Nat.pow_succ];have:=Nat.two_pow_pos kh;omega)
  omega
 have HK:Hid (∀ R x,2^hs=Y*D+R->x=Y*2^kh+Y*(R/2^cut)/2^e2->cG 7 D (b+1) k x):=fun R x e ex=>rI b0 b1 hk hh hcut hN (Or.inl ⟨by rw[<-hbb, <-hhs];exact e,by rw[<-he2, <-hkh];exact ex⟩)
 have HK2:Hid (∀ R x,2^hs+R=Y*D->x+Y*(R/2^cut)/2^e2=Y*2^kh->cG 7 D (b+1) k x):=fun R x e ex=>rI b0 b1 hk hh hcut hN (Or.inr ⟨by rw[<-hbb, <-hhs];exact e,by rw[<-he2, <-hkh];exact ex⟩)
 have HO:Hid (∀ R,R<2*D->Y*(R/2^cut)/2^e2<=Y*2^kh):=fun R hR=>by
  have:=step_ok (y:=Y) b1 hk hh hcut hR
  rw[<-he2, <-hkh]at this
  exact this
 have C8:Hid (∀ W u v Z,ah w.heap.size W u (Y*2^kh)->ah w.heap.size W v (Z/2^e2)->wl Z<=40000->Calls Tryz.prog 56 #[u,v] W fun e w'=>∃ r,e=.returned r/\ah W.heap.size w' r (Y*2^kh+Z/2^e2)/\Below W.heap.size W w'):=fun W u v Z nu nv hZ=>jo W u v _ _ (nu.wlW (by omega)) (nv.wlW (by have:=aH (Nat.div_le_self Z (2^e2));omega))
 have C9:Hid (∀ W u v Z,ah w.heap.size W u (Y*2^kh)->ah w.heap.size W v (Z/2^e2)->wl Z<=40000->Z/2^e2<=Y*2^kh->Calls Tryz.prog 45 #[u,v] W fun e w'=>∃ r,e=.returned (.tuple #[r,.bool true])/\ah W.heap.size w' r (Y*2^kh-Z/2^e2)/\Below W.heap.size W w'):=fun W u v Z nu nv hZ hle=>(gA W u v _ _ (nu.wlW (by omega)) (nv.wlW (by have:=aH (Nat.div_le_self Z (2^e2));omega))).mono fun e w' ⟨b,hh⟩=>by
  rcases hh with⟨_,r,he,hn⟩|⟨hlt,_⟩
  ·exact⟨r,he,hn,b⟩
  ·omega
 have HF:Hid (∀ r X s' m' w',ah w.heap.size w' r X->cG 7 D (b+1) k X->aA w' gr gd gm gt gk ge g s' l m' T->s<=s'->s'<=s+(zt k:Int)->m<=m'->m'<=max m (l+(cZ N:Int))->Out (·=g) w w'->gI w gr gd gm gt gk ge g s l m T D b k (zt k) N 7 (.returned r) w'):=fun r X s' m' w' k1 k2 k3 k4 k5 k6 k7 k8=>⟨r,X,s',m',rfl,k1,k2,k3,k4,k5,k6,k7,k8⟩
 have HC:Hid (∀ W,Below w.heap.size w W->W.cell? ⟨gr,0,none⟩=some (.pointer (some ⟨gd,0,none⟩))/\W.cell? ⟨gd,0,none⟩=some (.pointer (some ⟨gm,0,none⟩))):=fun W b=>(hE.next b).way
 obtain⟨ga,la,ca,rfl⟩:=hd.inW.is
 obtain⟨gy,ly,cy',rfl⟩:=hy.inW.is
 have i1:(h:Int)+(bb:Int)=(hs:Int):=by omega
 have i2:IntKind.i64.wrap (hs:Int)=(hs:Int):=by rw[IntKind.wrap_i64];omega
 have i3:(k:Int)-(h:Int)=(kh:Int):=by omega
 have i4:IntKind.i64.wrap (kh:Int)=(kh:Int):=by rw[IntKind.wrap_i64];omega
 obtain⟨z1,hz1⟩:∃ z1:Int,z1=(hs:Int)-(k:Int):=⟨_,rfl⟩
 have i5:(hs:Int)-(k:Int)=z1:=hz1.symm
 have i6:IntKind.i64.wrap z1=z1:=by rw[IntKind.wrap_i64];omega
 obtain⟨z2,hz2⟩:∃ z2:Int,z2=z1-4:=⟨_,rfl⟩
 have i7:z1-4=z2:=hz2.symm
 have i8:IntKind.i64.wrap z2=z2:=by rw[IntKind.wrap_i64];omega
 have i9:max z2 0=(cut:Int):=by omega
 obtain⟨z3,hz3⟩:∃ z3:Nat,z3=2*h:=⟨_,rfl⟩
 have j1:2*(h:Int)=(z3:Int):=by omega
 have j2:IntKind.i64.wrap (z3:Int)=(z3:Int):=by rw[IntKind.wrap_i64];omega
 obtain⟨z4,hz4⟩:∃ z4:Nat,z4=z3+bb:=⟨_,rfl⟩
 have j3:(z3:Int)+(bb:Int)=(z4:Int):=by omega
 have j4:IntKind.i64.wrap (z4:Int)=(z4:Int):=by rw[IntKind.wrap_i64];omega
 obtain⟨z5,hz5⟩:∃ z5:Nat,z5=z4-k:=⟨_,rfl⟩
 have j5:(z4:Int)-(k:Int)=(z5:Int):=by omega
 have j6:IntKind.i64.wrap (z5:Int)=(z5:Int):=by rw[IntKind.wrap_i64];omega
 have j7:(z5:Int)-(cut:Int)=(e2:Int):=by omega
 have j8:IntKind.i64.wrap (e2:Int)=(e2:Int):=by rw[IntKind.wrap_i64];omega
 have bl:Below w.heap.size w w:=Below.refl _ _
 clear hE hT h0 h1 h2 h3 hd hy b0 b1 hb hk hkb hh hN hN1 hN2 hbb hhs hcut he2 hkh wY wD cy hst hst2 d1 wYD w2h w8 hz1 hz2 hz3 hz4 hz5
 generalize gI w gr gd gm gt gk ge g s l m T D b k (zt k) N 7=SA at *
 generalize ((8*((k/2+69)/64*((k+67)/64)):Nat):Int)=K1 at *
 generalize (zt k:Int)=K2 at *
 generalize max m (l+(cZ N:Int))=KM at *
 generalize 2^hs=P at *
 suffices H:Calls Tryz.prog 155 #[.pointer (some ⟨gr,0,none⟩),.slice ga la ca,.slice gy ly cy',.int .i64 (h:Int),.int .i64 (k:Int)] w (fun e w'=>∃ v,e=.returned v/\SA (.returned v) w') from H.mono (fun e w' ⟨v,he,h⟩=>he▸h)
 go_enter Tryz.func155,Tryz.ntmps155
 go_wp2_with fail
 refine(ae CB _ bl).mono ?_
 rintro e w1 ⟨rfl,hw⟩
 obtain rfl:=hw.symm
 clear hw CB
 go_wp2_with fail
 have bl:Below w.heap.size w w.drew:=(Below.refl _ _).drew
 (try simp only[List.append_eq,List.cons_append,List.nil_append])
 go_region_held3 (fun w'=>w'.cell? ⟨gr,0,none⟩=some (.pointer (some ⟨gd,0,none⟩))/\w'.cell? ⟨gd,0,none⟩=some (.pointer (some ⟨gm,0,none⟩))) (first|(exact ae HC _ bl)|(exact aA.way E3)|(exact aA.way E2)|go_keep) (first
  |(with_reducible refine(ae C1 _ bl).mono ?_;rintro e w1 ⟨u,rfl,n1,bl⟩)
  |(with_reducible refine(ae C2 _ _ bl n1).mono ?_;rintro e w2 ⟨v,s2,m2,rfl,n2,n1,E2,k1,k2,k3,k4,o2⟩)
  |(with_reducible refine(ae C3 _ _ _ n1 n2).mono ?_;rintro e w3 ⟨rr,bt,R,rfl,n3,hR,b3⟩;have E3:=aA.next E2 b3)
  |fail)
 have hR2:=ae HR R (hR.elim (fun h=>Or.inl h.2) (fun h=>Or.inr h.2))
 have N3:=hide (n3.mono o2.size)
 have o3:=hide (o2.next b3)
 have HE3:=hide E3
 have HRR:=hide hR
 obtain⟨ra,rl,rc,rfl⟩:=n3.shape
 have sz:=(ae o3).size
 have C4:Hid (∀ W,Below w3.heap.size w3 W->Calls Tryz.prog 36 #[.slice ra rl rc,.int .i64 (cut:Int)] W fun e w'=>∃ r,e=.returned r/\ah w.heap.size w' r (R/2^cut)/\Below w3.heap.size w3 w'):=fun W bw=>(ae C4 _ _ _ ((ae N3).next bw) hR2).mono fun e w' ⟨r,k1,k2,k3⟩=>⟨r,k1,k2.mono (Nat.le_trans sz bw.size),ag bw k3⟩
 have C5:=hide (fun W v (bw:Below w3.heap.size w3 W) (nv:ah w.heap.size W v (R/2^cut))=>ae C5 W v R s2 m2 nv hR2 (E3.next bw) ((ae o3).next bw) k1 k2 k3 k4)
 have HC:Hid (∀ W,Below w3.heap.size w3 W->W.cell? ⟨gr,0,none⟩=some (.pointer (some ⟨gd,0,none⟩))/\W.cell? ⟨gd,0,none⟩=some (.pointer (some ⟨gm,0,none⟩))):=fun W b=>(E3.next b).way
 have HO:=hide (ae HO R hR2)
 have HK:=hide (ae HK R)
 have HK2:=hide (ae HK2 R)
 have e0:=E3.way
 obtain⟨e0,e1⟩:=e0
 clear C1 C2 C3 n1 n2 n3 E2 o2 b3 hR HR bl E3
 generalize R/2^cut=R1 at *
 obtain⟨Z,hZ⟩:∃ Z,Z=Y*R1:=⟨_,rfl⟩
 rw[<-hZ]at C5 HO HK HK2
 clear hZ
 obtain⟨Z2,hZ2⟩:∃ Z2,Z2=Z/2^e2:=⟨_,rfl⟩
 have C6:=hide (fun W v=>ae C6 W v Z)
 have C8:=hide (fun W u v=>ae C8 W u v Z)
 have C9:=hide (fun W u v=>ae C9 W u v Z)
 rw[<-hZ2]at C6 C8 C9 HO HK HK2
 generalize Y*2^kh=Y2 at *
 clear hZ2
 go_wp2
 have bl:Below w3.heap.size w3 w3.drew:=(Below.refl _ _).drew
 (try simp only[List.append_eq,List.cons_append,List.nil_append])
 go_region_held3 (fun w'=>w'.cell? ⟨gr,0,none⟩=some (.pointer (some ⟨gd,0,none⟩))/\w'.cell? ⟨gd,0,none⟩=some (.pointer (some ⟨gm,0,none⟩))) (first|(exact ae HC _ bl)|(exact aA.way E6)|(exact aA.way E5)|go_keep) (first
  |(with_reducible refine(ae C4 _ bl).mono ?_;rintro e w4 ⟨v4,rfl,n4,bl⟩)
  |(with_reducible refine(ae C5 _ _ bl n4).mono ?_;rintro e w5 ⟨v5,s5,m5,rfl,n5,wZ,E5,k1,k2,k3,k4,o5⟩)
  |(with_reducible refine(ae C6 _ _ n5 wZ).mono ?_;rintro e w6 ⟨v6,rfl,n6,b6⟩;have E6:=aA.next E5 b6)
  |fail)
 have sz6:=o5.size
 have C7:=hide (ae C7 _ (o5.next b6))
 have N6:=hide (n6.mono o5.size)
 have o6:=hide (o5.next b6)
 have HE6:=hide E6
 obtain⟨ca6,cl6,cc6,rfl⟩:=n6.shape
 clear C4 C5 C6 HC e0 e1 n4 n5 n6 E5 o5 b6 bl E6
 go_wp2_with fail
 with_reducible refine(ae C7).mono ?_
 rintro e w7 ⟨x7,rfl,n7,b7⟩
 have N6:=hide ((ae N6).next b7)
 have N7:=hide (n7.mono (ae o6).size)
 have o7:=hide ((ae o6).next b7)
 have HE7:=hide ((ae HE6).next b7)
 obtain⟨xa7,xl7,xc7,rfl⟩:=n7.shape
 clear C7 n7 b7 o6 HE6
 rcases ae HRR with⟨rfl,hR⟩|⟨rfl,hR⟩
 ·have C8:=hide (ae C8 _ _ _ (ae N7) (ae N6) wZ)
  have HK:=hide (ae HK _ hR rfl)
  clear HRR hR HK2 C9
  go_wp2_with fail
  with_reducible refine(ae C8).mono ?_
  rintro e w8 ⟨x8,rfl,n8,b8⟩
  have N8:=hide n8
  have B8:=hide b8
  clear n8 b8 C8
  go_wp2
  go_ret
  exact⟨_,rfl,ae HF _ _ s5 m5 _ ((ae N8).mono (ae o7).size) (ae HK) ((ae HE7).next (ae B8)) k1 k2 k3 k4 ((ae o7).next (ae B8))⟩
 ·have C9:=hide (ae C9 _ _ _ (ae N7) (ae N6) wZ (ae HO))
  have HK:=hide (ae HK2 (Y2-Z2) hR (Nat.sub_add_cancel (ae HO)))
  clear HRR hR HK2 C8
  go_wp2_with fail
  with_reducible refine(ae C9).mono ?_
  rintro e w8 ⟨x8,rfl,n8,b8⟩
  have N8:=hide n8
  have B8:=hide b8
  clear n8 b8 C9
  go_wp2
  go_ret
  exact⟨_,rfl,ae HF _ _ s5 m5 _ ((ae N8).mono (ae o7).size) (ae HK) ((ae HE7).next (ae B8)) k1 k2 k3 k4 ((ae o7).next (ae B8))⟩
end Go.Proofs.YtgcnhfgpflncaaaGreatDoor
/- The guess of a reciprocal,by steps. -/
namespace Go.Proofs.YtgcnhfgpflncaaaGreatDoor
open Go.RowKit
set_option maxHeartbeats 800000 in
theorem Ii(w:World)(p:Value)(d:Value)(z:Int)(hz:z<0):
  Calls Tryz.prog 118 #[p,d,.int .i64 z] w fun e w'=>e=.returned (.slice none 0 0)/\w'=w:=by
 go_enter Tryz.func118,Tryz.ntmps118
 go_wp2
 go_ret
 exact⟨rfl,rfl⟩
def sH(k:Nat):Prop:=∀(w:World) (gr gd gm gt gk ge g:Nat) (s l m:Int) (T:Tab) (d:Value) (D b N:Nat),
 aA w gr gd gm gt gk ge g s l m T->TB w->0<=s->s+(nc k:Int)<=1152921504606846976->0<=l->l<=1000->bh w d D->2^b<=D->D<2^(b+1)->k+(b+1)<=1048576->(k+67)/64<=N->N<=16384->
 Calls Tryz.prog 118 #[.pointer (some ⟨gr,0,none⟩),d,.int .i64 (k:Int)] w (gI w gr gd gm gt gk ge g s l m T D b k (nc k) N 8)
set_option maxRecDepth 100000 in
set_option maxHeartbeats 3200000 in
theorem Ih(k:Nat)(hk:k<=60):sH k:=by
 intro w gr gd gm gt gk ge g s l m T d D b N hE hT h0 h1 h2 h3 hd b0 b1 hkb hN1 hN2
 obtain⟨bb,hbb⟩:∃ bb,bb=b+1:=⟨_,rfl⟩
 obtain⟨c,hc⟩:∃ c,c=b+1-(k+4):=⟨_,rfl⟩
 obtain⟨b',p0,p1,p2,p3,p4⟩:=Gf b0 b1 hc
 obtain⟨D',hD'⟩:∃ D',D'=D/2^c:=⟨_,rfl⟩
 rw[<-hD']at p0 p1 p4
 obtain⟨z1,hz1⟩:∃ z1:Int,z1=(bb:Int)-(k:Int):=⟨_,rfl⟩
 obtain⟨z2,hz2⟩:∃ z2:Int,z2=z1-4:=⟨_,rfl⟩
 have CB:=hide (dj hd.inW b0 b1)
 rw[<-hbb]at CB
 have CS:=hide (gi w d z2 D c (by omega) hd.inW)
 rw[<-hD']at CS
 have wD:wl D'<=1:=by have:=cL p1;omega
 obtain⟨b2,hb2⟩:∃ b2,b2=b'+1:=⟨_,rfl⟩
 obtain⟨kb,hkb2⟩:∃ kb,kb=k+b2:=⟨_,rfl⟩
 obtain⟨P,hP⟩:∃ P,P=2^kb:=⟨_,rfl⟩
 have wP:wl P<=2:=by
  have:=cL (n:=P) (b:=kb+1) (by rw[hP,Nat.pow_succ];have:=Nat.two_pow_pos kb;omega)
  omega
 have D0:0<D':=Nat.lt_of_lt_of_le (Nat.two_pow_pos _) p0
 have hl:nI P D'<=4:=by
  have:wl D'≠0:=fun e=>by rw[bO]at e;omega
  have e:wl D'=1:=by omega
  unfold nI
  rw[e]
  split
  ·omega
  ·omega
 have hn:nc k=4:=pD hk
 have C1:Hid (∀ W u,Below w.heap.size w W->ah w.heap.size W u D'->Calls Tryz.prog 35 #[u] W fun e w'=>e=.returned (.int .i64 (b2:Int))/\w'=W):=fun W u _ nu=>by rw[hb2];exact dj (nu.wlW (by omega)) p0 p1
 have C2:Hid (∀ W u,Below w.heap.size w W->ah w.heap.size W u D'->Calls Tryz.prog 116 #[.int .i64 (kb:Int)] W fun e w'=>∃ r,e=.returned r/\ah w.heap.size w' r P/\ah w.heap.size w' u D'/\Below w.heap.size w w'):=fun W u bw nu=>by
  rw[hP]
  exact(iq W kb kb (by omega)).mono fun e w' ⟨r,he,hn,hb⟩=>⟨r,he,hn.mono bw.size,nu.next hb,ag bw hb⟩
 have C3:Hid (∀ W u v,Below w.heap.size w W->ah w.heap.size W u P->ah w.heap.size W v D'->Calls Tryz.prog 71 #[.pointer (some ⟨gd,0,none⟩),u,v] W fun e w'=>∃ q r,e=.returned (.tuple #[q,r,.int .i64 0])/\aA w' gr gd gm gt gk ge g (s+(nI P D':Int)) l m T/\ah w.heap.size w' q (P/D')/\Out (·=g) w w'):=fun W u v bw nu nv=>by
  refine(ky W gr gd gm gt gk ge g s l m T u v P D' (hE.next bw) h0 (by omega) h2 h3 (nu.wlM (by omega)) (nv.wlM (by omega)) D0).mono ?_
  rintro e w' ⟨q,r,gq,gx,k1,k2,k3,⟨k4,k5,k6⟩,k7,k8⟩
  exact⟨q,r,k1,k7,k2.toW.mono (Nat.le_trans bw.size k5),(Out.of_below bw).trans k8⟩
 have HF:Hid (∀ r w',aA w' gr gd gm gt gk ge g (s+(nI P D':Int)) l m T->ah w.heap.size w' r (P/D')->Out (·=g) w w'->gI w gr gd gm gt gk ge g s l m T D b k (nc k) N 8 (.returned r) w'):=fun r w' k1 k2 k3=>by
  refine⟨r,_,_,_,rfl,k2,p4 _ ?_,k1,by omega,by omega,Int.le_refl _,by omega,k3⟩
  rw[hP,hkb2,hb2]
  exact Dx D0
 obtain⟨ga,la,ca,rfl⟩:=hd.inW.is
 have HC:Hid (∀ W,Below w.heap.size w W->W.cell? ⟨gr,0,none⟩=some (.pointer (some ⟨gd,0,none⟩))):=fun W b=>(hE.next b).way.1
 have i1:(bb:Int)-(k:Int)=z1:=hz1.symm
 have i2:IntKind.i64.wrap z1=z1:=by rw[IntKind.wrap_i64];omega
 have i3:z1-4=z2:=hz2.symm
 have i4:IntKind.i64.wrap z2=z2:=by rw[IntKind.wrap_i64];omega
 have i5:(k:Int)+(b2:Int)=(kb:Int):=by omega
 have i6:IntKind.i64.wrap (kb:Int)=(kb:Int):=by rw[IntKind.wrap_i64];omega
 have i7:¬(k:Int)<0:=by omega
 have i8:(k:Int)<=60:=by omega
 clear hE hT h0 h1 h2 h3 hd b0 b1 hkb hN1 hN2 hbb hc p0 p1 p2 p3 p4 hz1 hz2 hD' wD hb2 hkb2 hP wP D0 hl hn hk
 generalize gI w gr gd gm gt gk ge g s l m T D b k (nc k) N 8=SA at *
 generalize P/D'=X at *
 suffices H:Calls Tryz.prog 118 #[.pointer (some ⟨gr,0,none⟩),.slice ga la ca,.int .i64 (k:Int)] w (fun e w'=>∃ v,e=.returned v/\SA (.returned v) w') from H.mono (fun e w' ⟨v,he,h⟩=>he▸h)
 go_enter Tryz.func118,Tryz.ntmps118
 go_wp2_with fail
 refine(ae CB).mono ?_
 rintro e w1 ⟨rfl,hw⟩
 obtain rfl:=hw.symm
 clear hw CB
 go_wp2_with fail
 with_reducible refine(ae CS).mono ?_
 rintro e w1 ⟨d1,rfl,n1,b1⟩
 obtain⟨da,dl,dc,rfl⟩:=n1.shape
 clear CS
 go_wp2
 have bl:Below w.heap.size w w1.drew:=b1.trans ((Below.refl _ _).drew)
 have n1:ah w.heap.size w1.drew (.slice da dl dc) D':=n1.next (Below.refl _ _).drew
 (try simp only[List.append_eq,List.cons_append,List.nil_append])
 go_region_held3 (fun w'=>w'.cell? ⟨gr,0,none⟩=some (.pointer (some ⟨gd,0,none⟩))) (first|(exact ae HC _ bl)|(exact(aA.way E4).1)|go_keep) (first
  |(with_reducible refine(ae C1 _ _ bl n1).mono ?_;rintro e w2 ⟨rfl,rfl⟩)
  |(with_reducible refine(ae C2 _ _ bl n1).mono ?_;rintro e w3 ⟨u3,rfl,n3,n1,bl⟩)
  |(with_reducible refine(ae C3 _ _ _ bl n3 n1).mono ?_;rintro e w4 ⟨q4,r4,rfl,E4,n4,o4⟩)
  |fail)
 have HX:=hide (ae HF _ _ E4 n4 o4)
 clear C1 C2 C3 HF HC E4 n4 o4 n1 n3 bl b1
 go_wp2
 go_ret
 exact⟨_,rfl,ae HX⟩
set_option maxRecDepth 100000 in
set_option maxHeartbeats 3200000 in
theorem Dz(k:Nat)(hk:60<k)(ih:sH (k/2+4)):sH k:=by
 intro w gr gd gm gt gk ge g s l m T d D b N hE hT h0 h1 h2 h3 hd b0 b1 hkb hN1 hN2
 obtain⟨bb,hbb⟩:∃ bb,bb=b+1:=⟨_,rfl⟩
 obtain⟨c,hc⟩:∃ c,c=b+1-(k+4):=⟨_,rfl⟩
 obtain⟨b',p0,p1,p2,p3,p4⟩:=Gf b0 b1 hc
 obtain⟨D',hD'⟩:∃ D',D'=D/2^c:=⟨_,rfl⟩
 rw[<-hD']at p0 p1 p4
 obtain⟨z1,hz1⟩:∃ z1:Int,z1=(bb:Int)-(k:Int):=⟨_,rfl⟩
 obtain⟨z2,hz2⟩:∃ z2:Int,z2=z1-4:=⟨_,rfl⟩
 obtain⟨h,hh⟩:∃ h,h=k/2+4:=⟨_,rfl⟩
 obtain⟨k2,hk2⟩:∃ k2,k2=k/2:=⟨_,rfl⟩
 rw[<-hh]at ih
 have CB:=hide (dj hd.inW b0 b1)
 rw[<-hbb]at CB
 have CS:=hide (gi w d z2 D c (by omega) hd.inW)
 rw[<-hD']at CS
 have wD:wl D'<=16384:=by have:=cL p1;omega
 have hn:nc k=nc h+zt k:=by rw[hh];exact pC (by omega)
 have hst:=zu (k:=k) (by omega)
 have C1:Hid (∀ W u,Below w.heap.size w W->ah w.heap.size W u D'->Calls Tryz.prog 118 #[.pointer (some ⟨gr,0,none⟩),u,.int .i64 (h:Int)] W fun e w'=>∃ r Y s' m',e=.returned r/\ah w.heap.size w' r Y/\cG 8 D' (b'+1) h Y/\ah w.heap.size w' u D'/\aA w' gr gd gm gt gk ge g s' l m' T/\s<=s'/\s'<=s+(nc h:Int)/\m<=m'/\m'<=max m (l+(cZ N:Int))/\Out (·=g) w w'):=fun W u bw nu=>by
  refine(ih W gr gd gm gt gk ge g s l m T u D' b' N (hE.next bw) (hT.next bw) h0 (by omega) h2 h3 (nu.wlM wD) p0 p1 (by omega) (by omega) hN2).mono ?_
  rintro e w' ⟨r,Y,s',m',j1,j2,j3,j4,j5,j6,j7,j8,j9⟩
  exact⟨r,Y,s',m',j1,j2.mono bw.size,j3,(hE.next bw).newW j9 nu,j4,j5,j6,j7,j8,(Out.of_below bw).trans j9⟩
 have C2:Hid (∀ W u v Y s' m',ah w.heap.size W u D'->ah w.heap.size W v Y->cG 8 D' (b'+1) h Y->aA W gr gd gm gt gk ge g s' l m' T->s<=s'->s'<=s+(nc h:Int)->m<=m'->m'<=max m (l+(cZ N:Int))->Out (·=g) w W->Calls Tryz.prog 155 #[.pointer (some ⟨gr,0,none⟩),u,v,.int .i64 (h:Int),.int .i64 (k:Int)] W fun e w'=>∃ r,e=.returned r/\gI w gr gd gm gt gk ge g s l m T D b k (nc k) N 8 (.returned r) w'):=fun W u v Y s' m' nu nv hY E j1 j2 j3 j4 o=>by
  refine(Jd W gr gd gm gt gk ge g s' l m' T u v D' Y b' h k N E (hE.tb o hT) (by omega) (by omega) h2 h3 (nu.wlM wD) (nv.wlM (by have:=tu p0 hY;omega)) p0 p1 p2 hk (by omega) hh hY hN1 hN2).mono ?_
  rintro e w' ⟨r,X,s'',m'',i1,i2,i3,i4,i5,i6,i7,i8,i9⟩
  exact⟨r,i1,r,X,s'',m'',rfl,i2.mono o.size,p4 _ i3,i4,by omega,by omega,by omega,by omega,o.trans i9⟩
 obtain⟨ga,la,ca,rfl⟩:=hd.inW.is
 have i1:(bb:Int)-(k:Int)=z1:=hz1.symm
 have i2:IntKind.i64.wrap z1=z1:=by rw[IntKind.wrap_i64];omega
 have i3:z1-4=z2:=hz2.symm
 have i4:IntKind.i64.wrap z2=z2:=by rw[IntKind.wrap_i64];omega
 have i7:¬(k:Int)<0:=by omega
 have i8:¬(k:Int)<=60:=by omega
 have i9:(k:Int).tdiv 2=(k2:Int):=by rw[hk2];rfl
 have j0:(k:Int)/2=(k2:Int):=by omega
 have j1:IntKind.i64.wrap (k2:Int)=(k2:Int):=by rw[IntKind.wrap_i64];omega
 have j2:(k2:Int)+4=(h:Int):=by omega
 have j3:IntKind.i64.wrap (h:Int)=(h:Int):=by rw[IntKind.wrap_i64];omega
 clear hE hT h0 h1 h2 h3 hd b0 b1 hkb hN1 hN2 hbb hc p0 p1 p2 p3 p4 hz1 hz2 hD' wD hn hk ih hst hh hk2
 generalize gI w gr gd gm gt gk ge g s l m T D b k (nc k) N 8=SA at *
 generalize cG 8 D' (b'+1) h=NQ at *
 generalize (nc h:Int)=NH at *
 generalize max m (l+(cZ N:Int))=KM at *
 suffices H:Calls Tryz.prog 118 #[.pointer (some ⟨gr,0,none⟩),.slice ga la ca,.int .i64 (k:Int)] w (fun e w'=>∃ v,e=.returned v/\SA (.returned v) w') from H.mono (fun e w' ⟨v,he,h⟩=>he▸h)
 go_enter Tryz.func118,Tryz.ntmps118
 go_wp2_with fail
 refine(ae CB).mono ?_
 rintro e w1 ⟨rfl,hw⟩
 obtain rfl:=hw.symm
 clear hw CB
 go_wp2_with fail
 with_reducible refine(ae CS).mono ?_
 rintro e w1 ⟨d1,rfl,n1,b1⟩
 have C1:=hide (ae C1 _ _ b1 n1)
 obtain⟨da,dl,dc,rfl⟩:=n1.shape
 clear CS n1 b1
 go_wp2_with fail
 with_reducible refine(ae C1).mono ?_
 rintro e w2 ⟨y,Y,s2,m2,rfl,n2,hY,n1,E2,k1,k2',k3,k4,o2⟩
 have C2:=hide (ae C2 _ _ _ _ _ _ n1 n2 hY E2 k1 k2' k3 k4 o2)
 obtain⟨ya,yl,yc,rfl⟩:=n2.shape
 clear C1 n1 n2 hY E2 o2
 go_wp2_with fail
 with_reducible refine(ae C2).mono ?_
 rintro e w3 ⟨r,rfl,h3⟩
 have H3:=hide h3
 clear C2 h3
 go_wp2
 go_ret
 exact⟨_,rfl,ae H3⟩
theorem Ic(k:Nat):sH k:=by
 induction k using Nat.strongRecOn with
 |_ k ih=>
  by_cases hk:k<=60
  ·exact Ih k hk
  ·exact Dz k (by omega) (ih _ (by omega))
end Go.Proofs.YtgcnhfgpflncaaaGreatDoor
/- Quotient and remainder from a guess. -/
namespace Go.Proofs.YtgcnhfgpflncaaaGreatDoor
open Go.RowKit
def yh(w:World)(gr gd gm gt gk ge g:Nat)(s l m:Int)(T:Tab)(B A D G:Nat)(e:Ending)(w':World):Prop:=
 ∃ q r gq gx s' m',e=.returned (.tuple #[q,r])/\aS gq (gq+1) w' q (A/D)/\aS gx (gx+1) w' r (A%D)/\(gq≠gx/\B<=gq/\B<=gx)/\aA w' gr gd gm gt gk ge g s' l m' T/\s<=s'/\s'<=s+((8*(wl G*wl D):Nat):Int)/\m<=m'/\m'<=max m (l+(cZ (max (wl G) (wl D)):Int))/\Out (·=g) w w'
set_option maxRecDepth 100000 in
set_option maxHeartbeats 3200000 in
theorem pU(w:World)(gr gd gm gt gk ge g:Nat)(s l m:Int)(T:Tab)(a d x:Value)(B A D G:Nat)
  (hE:aA w gr gd gm gt gk ge g s l m T) (hT:TB w) (h0:0<=s) (h1:s<=1154047404513689600) (h2:0<=l) (h3:l<=1000) (ha:aL w a A) (hA:wl A<=1000000) (hd:bh w d D) (hx:ah B w x G) (hG:wl G<=16384) (hB:B<=w.heap.size) (hD:0<D):
  Calls Tryz.prog 117 #[.pointer (some ⟨gr,0,none⟩),a,d,x] w (yh w gr gd gm gt gk ge g s l m T B A D G):=by
 have C1:Hid (∀ W,Below w.heap.size w W->Calls Tryz.prog 34 #[.int .u64 1] W fun e w'=>∃ r,e=.returned r/\ah w.heap.size w' r 1/\Below w.heap.size w w'):=fun W b=>(kK W 1 (by omega)).mono fun e w' ⟨r,he,hn,hb⟩=>⟨r,he,hn.mono b.size,ag b hb⟩
 have C2:Hid (∀ W u,Below w.heap.size w W->ah w.heap.size W u 1->Calls Tryz.prog 65 #[.pointer (some ⟨gm,0,none⟩),x,d] W fun e w'=>∃ r s' m',e=.returned r/\ah w.heap.size w' r (G*D)/\aA w' gr gd gm gt gk ge g s' l m' T/\s<=s'/\s'<=s+((8*(wl G*wl D):Nat):Int)/\m<=m'/\m'<=max m (l+(cZ (max (wl G) (wl D)):Int))/\ah w.heap.size w' u 1/\Out (·=g) w w'):=fun W u b nu=>by
  refine(ip W gr gd gm gt gk ge g s l m T x d G D (hE.next b) (hT.next b) h0 h1 h2 h3 ((hx.wlM hG).next b) (hd.next b)).mono ?_
  rintro e w' ⟨r,s',m',k1,k2,k3,k4,k5,k6,k7,k8⟩
  exact⟨r,s',m',k1,k2.mono b.size,k3,k4,k5,k6,k7,(hE.next b).newW k8 nu,(Out.of_below b).trans k8⟩
 have HA:Hid (∀ W,Out (·=g) w W->aL W a A):=fun W o=>hE.inW o ha
 have HD:Hid (∀ W,Out (·=g) w W->aL W d D):=fun W o=>hE.inW o hd.inW
 have HX:Hid (∀ W,Out (·=g) w W->ah B W x G):=fun W o=>hE.newW o hx
 have HC:Hid (∀ W,Below w.heap.size w W->W.cell? ⟨gr,0,none⟩=some (.pointer (some ⟨gd,0,none⟩))/\W.cell? ⟨gd,0,none⟩=some (.pointer (some ⟨gm,0,none⟩))):=fun W b=>(hE.next b).way
 obtain⟨val,hval⟩:=xf
 have HV:=hide hval
 have wD:=hd.wlM
 have wG:=gG G D
 have CA:Hid (∀ W u P,Out (·=g) w W->wl P<=40000->ah w.heap.size W u P->Calls Tryz.prog 43 #[u,a] W fun e w'=>e=.returned (.int .i64 (aV P A))/\Below W.heap.size W w'):=fun W u P o h n=>lQ W u a P A (n.wlW (by omega)) (hE.inW o ha)
 have CS:Hid (∀ W u P,Out (·=g) w W->wl P<=40000->ah w.heap.size W u P->P<=A->Calls Tryz.prog 45 #[a,u] W fun e w'=>∃ r,e=.returned (.tuple #[r,.bool true])/\ah W.heap.size w' r (A-P)/\Below W.heap.size W w'):=fun W u P o h n hle=>(gA W a u A P (hE.inW o ha) (n.wlW (by omega))).mono fun e w' ⟨b,hh⟩=>by
  rcases hh with⟨_,r,he,hn⟩|⟨hlt,_⟩
  ·exact⟨r,he,hn,b⟩
  ·omega
 have CD:Hid (∀ B' W u P,Out (·=g) w W->wl P<=1000000->ah B' W u P->D<=P->Calls Tryz.prog 45 #[u,d] W fun e w'=>∃ r,e=.returned (.tuple #[r,.bool true])/\ah W.heap.size w' r (P-D)/\Below W.heap.size W w'):=fun B' W u P o h n hle=>(gA W u d P D (n.wlW (by omega)) (hE.inW o hd.inW)).mono fun e w' ⟨b,hh⟩=>by
  rcases hh with⟨_,r,he,hn⟩|⟨hlt,_⟩
  ·exact⟨r,he,hn,b⟩
  ·omega
 have C0:Hid (∀ W u v Q,wl Q<=1000000->ah B W u Q->ah w.heap.size W v 1->0<Q->Calls Tryz.prog 45 #[u,v] W fun e w'=>∃ r,e=.returned (.tuple #[r,.bool true])/\ah W.heap.size w' r (Q-1)/\Below W.heap.size W w'):=fun W u v Q h n n1 hle=>(gA W u v Q 1 (n.wlW (by omega)) (n1.toIn (p:=1) (by decide) (by omega))).mono fun e w' ⟨b,hh⟩=>by
  rcases hh with⟨_,r,he,hn⟩|⟨hlt,_⟩
  ·exact⟨r,he,hn,b⟩
  ·omega
 have CP:Hid (∀ B' W u v Q,wl Q<=1000000->ah B' W u Q->ah w.heap.size W v 1->Calls Tryz.prog 56 #[u,v] W fun e w'=>∃ r,e=.returned r/\ah W.heap.size w' r (Q+1)/\Below W.heap.size W w'):=fun B' W u v Q h n n1=>jo W u v Q 1 (n.wlW (by omega)) (n1.toIn (p:=1) (by decide) (by omega))
 have CB:Hid (∀ B' W u R,Out (·=g) w W->wl R<=1000000->ah B' W u R->Calls Tryz.prog 43 #[u,d] W fun e w'=>e=.returned (.int .i64 (aV R D))/\Below W.heap.size W w'):=fun B' W u R o h n=>lQ W u d R D (n.wlW (by omega)) (hE.inW o hd.inW)
 obtain⟨ga,la,ca,rfl⟩:=ha.is
 obtain⟨gb,lb,cb,rfl⟩:=hd.inW.is
 obtain⟨gx,lx,cx,rfl⟩:=hx.shape
 have bl:Below w.heap.size w w.drew:=(Below.refl _ _).drew
 have HF:Hid (∀ e w',(∃ q r gq gx s' m',e=.returned (.tuple #[q,r])/\aS gq (gq+1) w' q (A/D)/\aS gx (gx+1) w' r (A%D)/\(gq≠gx/\B<=gq/\B<=gx)/\aA w' gr gd gm gt gk ge g s' l m' T/\s<=s'/\s'<=s+((8*(wl G*wl D):Nat):Int)/\m<=m'/\m'<=max m (l+(cZ (max (wl G) (wl D)):Int))/\Out (·=g) w w')->yh w gr gd gm gt gk ge g s l m T B A D G e w'):=fun e w' h=>h
 generalize yh w gr gd gm gt gk ge g s l m T B A D G=SA at *
 generalize ((8*(wl G*wl D):Nat):Int)=KC at *
 generalize max m (l+(cZ (max (wl G) (wl D)):Int))=KM at *
 clear ha hd hx hE hT h0 h1 h2 h3 hval
 suffices H:Calls Tryz.prog 117 #[.pointer (some ⟨gr,0,none⟩),.slice ga la ca,.slice gb lb cb,.slice gx lx cx] w (fun e w'=>∃ v,e=.returned v/\SA (.returned v) w') from H.mono (fun e w' ⟨v,he,h⟩=>he▸h)
 go_enter Tryz.func117,Tryz.ntmps117
 go_wp2_with fail
 (try simp only[List.append_eq,List.cons_append,List.nil_append])
 go_region_held3 (fun w'=>w'.cell? ⟨gr,0,none⟩=some (.pointer (some ⟨gd,0,none⟩))/\w'.cell? ⟨gd,0,none⟩=some (.pointer (some ⟨gm,0,none⟩))) (first|(exact ae HC _ bl)|(exact aA.way E2)|go_keep) (first
  |(with_reducible refine(ae C1 _ bl).mono ?_;rintro e w1 ⟨one,rfl,n1,bl⟩)
  |(with_reducible refine(ae C2 _ _ bl n1).mono ?_;rintro e w2 ⟨p,s2,m2,rfl,n2,E2,k1,k2,k3,k4,n1,o2⟩)
  |fail)
 have NO:=hide n1
 have NP:=hide n2
 have HE:=hide E2
 have HO:=hide o2
 have NX:=hide (ae HX _ o2)
 have sz:=o2.size
 obtain⟨oa,ol,oc,rfl⟩:=n1.shape
 clear n1 n2 E2 o2 HX HC C1 C2 bl
 go_wp2
 go_loopw [8,11] (fun qv pv wr=>∃ Q,Q<=G/\Hid (ah B wr qv Q)/\Hid (ah w.heap.size wr pv (Q*D))/\Below w2.heap.size w2 wr) (fun _ pv wr=>val wr pv)
 case atStart=>exact⟨G,Nat.le_refl _,NX,NP,Below.refl _ _⟩
 case round=>
  clear NX NP
  obtain⟨Q,hQ,NQ,NP,b2⟩:=hrel
  have wQ:=aH hQ
  have wP:=aH (Nat.mul_le_mul_right D hQ)
  have o2:=(ae HO).next b2
  have hm1:=ae HV _ _ _ ((ae NP).wlW (by omega))
  have CA1:=hide (ae CA _ _ _ o2 (by omega) (ae NP))
  obtain⟨qa,ql,qc,rfl⟩:=(ae NQ).shape
  obtain⟨pa,pl,pc,rfl⟩:=(ae NP).shape
  by_cases hlt:A<Q*D
  ·have hc:aV (Q*D) A=1:=cJ hlt
   have hQ0:0<Q:=by
    rcases Nat.eq_zero_or_pos Q with e|e
    ·subst e;omega
    ·exact e
   obtain⟨Q1,hQ1⟩:∃ Q1,Q=Q1+1:=⟨Q-1,by omega⟩
   have eP:Q*D=Q1*D+D:=by rw[hQ1,Nat.succ_mul]
   rw[hc]at CA1
   clear hc CS CP CB HF
   go_wp2_with fail
   with_reducible refine(ae CA1).mono ?_
   rintro e w3 ⟨rfl,b3⟩
   have C01:=hide (ae C0 _ _ _ _ (by omega) ((ae NQ).next b3) (((ae NO).next b2).next b3) hQ0)
   have NP:=hide ((ae NP).next b3)
   have b3:=ag b2 b3
   clear CA1 b2 o2 NQ
   go_wp2_with fail
   with_reducible refine(ae C01).mono ?_
   rintro e w4 ⟨q2,rfl,nq,b4⟩
   have CD1:=hide (ae CD _ _ _ _ ((ae HO).next (ag b3 b4)) (by omega) ((ae NP).next b4) (by omega))
   have s3:=b3.size
   have NQ:=hide (nq.mono (B':=B) (by omega))
   have b4:=ag b3 b4
   obtain⟨qa',ql',qc',rfl⟩:=nq.shape
   clear C01 nq b3 NP
   go_wp2_with fail
   with_reducible refine(ae CD1).mono ?_
   rintro e w5 ⟨p2,rfl,np,b5⟩
   have s4:=b4.size
   have NP:=hide (np.mono (B':=w.heap.size) (by omega))
   have NQ:=hide ((ae NQ).next b5)
   have b5:=ag b4 b5
   have hm2:=ae HV _ _ _ (np.wlW (by have:=aH (Nat.sub_le (Q*D) D);omega))
   obtain⟨pa',pl',pc',rfl⟩:=np.shape
   rw[show Q*D-D=Q1*D by omega]at NP hm2
   rw[show Q-1=Q1 by omega]at NQ
   clear CD1 np b4
   go_wp2
   go_roundw
   case rel=>exact⟨Q1,by omega,NQ,NP,b5⟩
   case measure=>rw[hm1,hm2];omega
  ·obtain⟨c,hc0,hc⟩:∃ c:Int,aV (Q*D) A=c/\¬0<c:=by
    refine⟨_,rfl,?_⟩
    rcases Nat.lt_or_ge (Q*D) A with h|h
    ·rw[cK h];decide
    ·rw[de (by omega)];decide
   rw[hc0]at CA1
   have HL:=hide hlt
   obtain⟨R,hR⟩:∃ R,R=A-Q*D:=⟨_,rfl⟩
   have hAR:A=Q*D+R:=by omega
   have wR:=aH (show R<=A by omega)
   clear hc0 C0 CA hm1
   go_wp2_with fail
   with_reducible refine(ae CA1).mono ?_
   rintro e w3 ⟨rfl,b3⟩
   have CS1:=hide (ae CS _ _ _ ((ae HO).next (ag b2 b3)) (by omega) ((ae NP).next b3) (by omega))
   rw[<-hR]at CS1
   have NQ:=hide ((ae NQ).next b3)
   have b3:=ag b2 b3
   clear CA1 CS b2 o2 NP HL hlt hR
   go_wp2_with fail
   with_reducible refine(ae CS1).mono ?_
   rintro e w4 ⟨r,rfl,nr,b4⟩
   have s3:=b3.size
   obtain⟨gx0,hx0,NR⟩:=cF nr
   obtain⟨gq0,hne,hq0,NQ⟩:=cC (X:=gx0) (ae NQ) hx0 (by omega)
   have NR:=hide NR
   have NQ:=hide (NQ.next b4)
   have b4:=ag b3 b4
   have s4:=b4.size
   obtain⟨ra,rl,rc,rfl⟩:=nr.shape
   have hx0:B<=gx0:=by omega
   clear CS1 nr b3
   have wQA:wl Q<=1000000:=by omega
   clear hQ wQ wP
   go_wp2
   go_loopw [8,9] (fun qv rv wr=>∃ Q R gq gx,A=Q*D+R/\Hid (aS gq (gq+1) wr qv Q)/\Hid (aS gx (gx+1) wr rv R)/\gq≠gx/\B<=gq/\B<=gx/\Below w4.heap.size w4 wr) (fun _ rv wr=>val wr rv)
   case atStart=>exact⟨Q,R,gq0,gx0,hAR,NQ,NR,hne,hq0,hx0,Below.refl _ _⟩
   case round=>
    clear NQ NR hne hq0 hx0 hAR wR wQA
    obtain⟨Q',R',gq,gx',hAR,NQ,NR,hne,hgq,hgx,b5⟩:=hrel
    have wR:=aH (show R'<=A by omega)
    have wQ:wl Q'<=wl A:=aH (by have:=Nat.mul_le_mul_left Q' hD;omega)
    have o5:=(ae HO).next (ag b4 b5)
    have hm1:=ae HV _ _ _ ((ae NR).toW.wlW (by omega))
    have CB1:=hide (ae CB _ _ _ _ o5 (by omega) (ae NR).toW)
    obtain⟨qa1,ql1,qc1,rfl⟩:=(ae NQ).toW.shape
    obtain⟨ra1,rl1,rc1,rfl⟩:=(ae NR).toW.shape
    by_cases hge:D<=R'
    ·obtain⟨c2,hc0,hc2⟩:∃ c:Int,aV R' D=c/\0<=c:=by
      refine⟨_,rfl,?_⟩
      rcases Nat.lt_or_ge D R' with h|h
      ·rw[cJ h];decide
      ·rw[de (by omega)];decide
     rw[hc0]at CB1
     have eA:A=(Q'+1)*D+(R'-D):=by rw[Nat.succ_mul];omega
     clear hc0 HF
     go_wp2_with fail
     with_reducible refine(ae CB1).mono ?_
     rintro e w6 ⟨rfl,b6⟩
     have CP1:=hide (ae CP _ _ _ _ _ (by omega) ((ae NQ).toW.next b6) (((ae NO).next (ag b4 b5)).next b6))
     have NR:=hide ((ae NR).next b6)
     have b6:=ag b5 b6
     clear CB1 b5 o5 NQ
     go_wp2_with fail
     with_reducible refine(ae CP1).mono ?_
     rintro e w7 ⟨q2,rfl,nq,b7⟩
     have CD1:=hide (ae CD _ _ _ _ ((ae HO).next (ag b4 (ag b6 b7))) (by omega) ((ae NR).toW.next b7) hge)
     have s6:=b6.size
     have s7:=b7.size
     have NQ:=hide nq
     have b7:=ag b6 b7
     obtain⟨qa2,ql2,qc2,rfl⟩:=nq.shape
     clear CP1 nq b6 NR
     go_wp2_with fail
     with_reducible refine(ae CD1).mono ?_
     rintro e w8 ⟨r2,rfl,nr,b8⟩
     obtain⟨gx2,hx2,NR⟩:=cF nr
     obtain⟨gq2,hne2,hq2,NQ⟩:=cC (X:=gx2) (ae NQ) hx2 (by omega)
     have hm2:=ae HV _ _ _ (nr.wlW (by have:=aH (Nat.sub_le R' D);omega))
     have NR:=hide NR
     have NQ:=hide (NQ.next b8)
     have b8:=ag b7 b8
     obtain⟨ra2,rl2,rc2,rfl⟩:=nr.shape
     clear CD1 nr b7
     go_wp2
     go_roundw
     case rel=>exact⟨_,_,gq2,gx2,eA,NQ,NR,hne2,by omega,by omega,b8⟩
     case measure=>rw[hm1,hm2];omega
    ·have hc:aV R' D= -1:=cK (by omega)
     rw[hc]at CB1
     have hAD:A/D=Q'/\A%D=R':=by
      rw[hAR]
      exact⟨by rw[Nat.mul_comm,Nat.mul_add_div hD,Nat.div_eq_of_lt (by omega),Nat.add_zero],by rw[Nat.mul_comm,Nat.mul_add_mod,Nat.mod_eq_of_lt (by omega)]⟩
     rw[hAD.1,hAD.2]at HF
     clear hc CD CP CB hAD hAR
     go_wp2_with fail
     with_reducible refine(ae CB1).mono ?_
     rintro e w6 ⟨rfl,b6⟩
     have NQ:=hide ((ae NQ).next b6)
     have NR:=hide ((ae NR).next b6)
     have b6:=ag b4 (ag b5 b6)
     clear CB1 b5 o5
     go_wp2
     go_ret2
     exact⟨_,rfl,ae HF _ _ ⟨_,_,gq,gx',s2,m2,rfl,ae NQ,ae NR,⟨hne,hgq,hgx⟩,(ae HE).next b6,k1,k2,k3,k4,(ae HO).next b6⟩⟩
end Go.Proofs.YtgcnhfgpflncaaaGreatDoor
/- New and Recip of the landed package recip. -/
namespace Go.Proofs.YtgcnhfgpflncaaaGreatDoor
open Go.RowKit
set_option maxHeartbeats 1600000 in
theorem ED:FH:=by
 intro T w
 have CC:=hide (fun w=>Es T w)
 unfold Tab.val at CC ⊢
 go_enter Tryz.func49,Tryz.ntmps49
 go_wp2_with fail
 refine(ae CC _).mono ?_
 rintro e w1 ⟨gd,gm,gt,gk,ge,g,rfl,E1,⟨hgd,hgm,hgt,hgk,hge,hg⟩,b1⟩
 have hg':w.heap.size<=g:=Nat.le_trans (by simp) hg
 have hge':w.heap.size<=ge:=Nat.le_trans (by simp) hge
 have hgk':w.heap.size<=gk:=Nat.le_trans (by simp) hgk
 have hgt':w.heap.size<=gt:=Nat.le_trans (by simp) hgt
 have hgm':w.heap.size<=gm:=Nat.le_trans (by simp) hgm
 have hgd':w.heap.size<=gd:=Nat.le_trans (by simp) hgd
 have b0:=hide (ag ((Below.refl w.heap.size w).alloc (Nat.le_refl _) _) b1)
 have tl:=E1.met.lt
 have HE:=hide E1
 clear CC b1 hg E1 hge hgk hgt hgm hgd
 go_wp2
 go_ret
 refine⟨w1.heap.size,gd,gm,gt,gk,ge,g,rfl,⟨?_,(ae HE).next ((Below.refl _ _).alloc (Nat.le_refl _) _),by omega⟩,⟨(ae b0).size,hgd',hgm',hgt',hgk',hge',hg'⟩,(ae b0).alloc (ae b0).size _⟩
 exact cell_of_row _ w1.heap.size 0 _ _ (0,0) (heap_alloc_new w1 _)
theorem jL{w:World}{v:Value}{n:Nat}(h:bh w v n):Calls Tryz.prog 32 #[v] w fun e w'=>e=.returned (.int .i64 (wl n:Int))/\w'=w:=by
 obtain⟨ga,b,o,cap,xs,rfl,hr,hd,hv,hl⟩:=h
 have e:=tz hd
 have:=len_any w ga b o cap xs.length xs rfl (by omega) hr
 rw[e,hv]at this
 exact this
def OK(n b D:Nat):Nat:=nI (2^n) D+nc (n-(b+1))+8*((n-(b+1)+65)/64*wl D)
def kM(w:World)(gr gd gm gt gk ge g:Nat)(s l m:Int)(T:Tab)(D b n N:Nat)(e:Ending)(w':World):Prop:=
 ∃ r gq s' m',e=.returned (.tuple #[r,.int .i64 0])/\aS gq (gq+1) w' r (2^n/D)/\w.heap.size<=gq/\aA w' gr gd gm gt gk ge g s' l m' T/\s<=s'/\s'<=s+(OK n b D:Int)/\m<=m'/\m'<=max m (l+(cZ N:Int))/\Out (·=g) w w'
theorem zF{n:Nat}(h:n<=1048575):wl (2^n)<=16384:=by
 have:=cL (n:=2^n) (b:=n+1) (by rw[Nat.pow_succ];have:=Nat.two_pow_pos n;omega)
 omega
theorem Dy(w:World)(gr gd gm gt gk ge g:Nat)(s l m:Int)(T:Tab)(u:Value)(D b n N:Nat)(z:Int)(hE:aA w gr gd gm gt gk ge g s l m T)(hT:TB w)(h0:0<=s)(h1:s<=1143914305352105984)(h2:0<=l)(h3:l<=1000)(hd:bh w u D)(b0:2^b<=D)(b1:D<2^(b+1))(hn:n<=1048575)(hN:(n-(b+1)+67)/64<=N)(hN2:N<=16384)(hz:z=(n:Int)-((b+1:Nat):Int)):
  Calls Tryz.prog 118 #[.pointer (some ⟨gr,0,none⟩),u,.int .i64 z] w fun e w'=>∃ r X s' m',e=.returned r/\ah w.heap.size w' r X/\wl X<=(n-(b+1)+65)/64/\aA w' gr gd gm gt gk ge g s' l m' T/\s<=s'/\s'<=s+(nc (n-(b+1)):Int)/\m<=m'/\m'<=max m (l+(cZ N:Int))/\Out (·=g) w w':=by
 by_cases h:n<b+1
 ·refine(Ii w _ u z (by omega)).mono ?_
  rintro e w' ⟨rfl,rfl⟩
  exact⟨_,0,s,m,rfl,me _ _,by rw[fK];omega,hE,Int.le_refl _,by omega,Int.le_refl _,by omega,Out.refl _ _⟩
 ·obtain⟨k,hk⟩:∃ k,k=n-(b+1):=⟨_,rfl⟩
  rw[<-hk]at hN
  rw[hz,show(n:Int)-((b+1:Nat):Int)=(k:Int) by omega, <-hk]
  have hc:=Nk k (by omega)
  refine(Ic k w gr gd gm gt gk ge g s l m T u D b N hE hT h0 (by omega) h2 h3 hd b0 b1 (by omega) hN hN2).mono ?_
  rintro e w' ⟨r,X,s',m',j1,j2,j3,j4,j5,j6,j7,j8,j9⟩
  exact⟨r,X,s',m',j1,j2,tu b0 j3,j4,j5,j6,j7,j8,j9⟩
set_option maxRecDepth 100000 in
set_option maxHeartbeats 3200000 in
theorem zi(w:World)(gr gd gm gt gk ge g:Nat)(s l m:Int)(T:Tab)(u:Value)(D b n N:Nat)(t:Int)
  (hE:aA w gr gd gm gt gk ge g s l m T) (h0:0<=s) (h1:s<=1143914305352105984) (h2:0<=l) (h3:l<=1000) (hd:bh w u D) (b0:2^b<=D) (hn:n<=1048575) (ht:t=T.clamp.row.getD 4 0) (hlt:  (wl D:Int)<t):
  Calls Tryz.prog 91 #[.pointer (some ⟨gr,0,none⟩),u,.int .i64 (n:Int)] w (kM w gr gd gm gt gk ge g s l m T D b n N):=by
 have D0:0<D:=Nat.lt_of_lt_of_le (Nat.two_pow_pos _) b0
 have CZ:=hide (gX hd.inW false (by simp;omega))
 have CI:=hide (jD w n true (by simp;omega))
 have CL:=hide (fun W (bw:Below w.heap.size w W)=>jL (hd.next bw))
 have HC:Hid (∀ W,Below w.heap.size w W->W.cell? ⟨gr,0,none⟩=some (.pointer (some ⟨gd,0,none⟩))/\W.cell? ⟨gd,0,none⟩=some (.pointer (some ⟨gm,0,none⟩))/\W.cell? ⟨gm,0,none⟩=some (.pointer (some ⟨gt,0,none⟩))/\W.cell? ⟨gt,0,none⟩=some (.pointer (some ⟨gk,0,none⟩))/\W.cell? ⟨gk,0,none⟩=some (.pointer (some ⟨ge,0,none⟩))/\W.cell? ⟨ge,0,none⟩=some (.pointer (some ⟨g,0,none⟩))/\W.cell? ⟨g,7,none⟩=some (.int .i64 t)):=fun W bw=>by
  have E:=hE.next bw
  obtain⟨e1,e2,e3,e4,e5⟩:=E.div.way
  have e6:=E.div.mul.toom.kara.tab 4 (by decide)
  rw[<-ht]at e6
  exact⟨E.ptr,e1,e2,e3,e4,e5,e6⟩
 have wP:=zF hn
 have C1:Hid (∀ W,Below w.heap.size w W->Calls Tryz.prog 116 #[.int .i64 (n:Int)] W fun e w'=>∃ r,e=.returned r/\ah w.heap.size w' r (2^n)/\Below w.heap.size w w'):=fun W bw=>(iq W n n (by omega)).mono fun e w' ⟨r,he,hn,hb⟩=>⟨r,he,hn.mono bw.size,ag bw hb⟩
 have C2:Hid (∀ W v,Below w.heap.size w W->ah w.heap.size W v (2^n)->Calls Tryz.prog 71 #[.pointer (some ⟨gd,0,none⟩),v,u] W fun e w'=>∃ q r gq,e=.returned (.tuple #[q,r,.int .i64 0])/\aA w' gr gd gm gt gk ge g (s+(nI (2^n) D:Int)) l m T/\aS gq (gq+1) w' q (2^n/D)/\w.heap.size<=gq/\Out (·=g) w w'):=fun W v bw nv=>by
  refine(ky W gr gd gm gt gk ge g s l m T v u (2^n) D (hE.next bw) h0 (by omega) h2 h3 (nv.wlM wP) (hd.next bw) D0).mono ?_
  rintro e w' ⟨q,r,gq,gx,k1,k2,k3,⟨k4,k5,k6⟩,k7,k8⟩
  exact⟨q,r,gq,k1,k7,k2,Nat.le_trans bw.size k5,(Out.of_below bw).trans k8⟩
 have HF:Hid (∀ q gq w',aA w' gr gd gm gt gk ge g (s+(nI (2^n) D:Int)) l m T->aS gq (gq+1) w' q (2^n/D)->w.heap.size<=gq->Out (·=g) w w'->kM w gr gd gm gt gk ge g s l m T D b n N (.returned (.tuple #[q,.int .i64 0])) w'):=fun q gq w' j1 j2 j3 j4=>by
  refine⟨q,gq,_,_,rfl,j2,j3,j1,by omega,?_,Int.le_refl _,by omega,j4⟩
  unfold OK
  omega
 obtain⟨ga,la,ca,rfl⟩:=hd.inW.is
 generalize kM w gr gd gm gt gk ge g s l m T D b n N=SA at *
 generalize wl D=L at *
 clear ht hE h0 h1 h2 h3 hd b0 hn D0 wP
 generalize 2^n/D=X at *
 generalize (nI (2^n) D:Int)=KL at *
 generalize 2^n=P at *
 suffices H:Calls Tryz.prog 91 #[.pointer (some ⟨gr,0,none⟩),.slice ga la ca,.int .i64 (n:Int)] w (fun e w'=>∃ v,e=.returned v/\SA (.returned v) w') from H.mono (fun e w' ⟨v,he,h⟩=>he▸h)
 go_enter Tryz.func91,Tryz.ntmps91
 go_wp2_with fail
 refine(ae CZ).mono ?_
 rintro e w1 ⟨rfl,hw⟩
 obtain rfl:=hw.symm
 clear hw CZ
 go_wp2_with fail
 refine(ae CI).mono ?_
 rintro e w1 ⟨rfl,hw⟩
 obtain rfl:=hw.symm
 clear hw CI
 go_wp2_with fail
 have bl:Below w.heap.size w w.drew:=(Below.refl _ _).drew
 (try simp only[List.append_eq,List.cons_append,List.nil_append])
 go_region_held3 (fun w'=>w'.cell? ⟨gr,0,none⟩=some (.pointer (some ⟨gd,0,none⟩))/\w'.cell? ⟨gd,0,none⟩=some (.pointer (some ⟨gm,0,none⟩))/\w'.cell? ⟨gm,0,none⟩=some (.pointer (some ⟨gt,0,none⟩))/\w'.cell? ⟨gt,0,none⟩=some (.pointer (some ⟨gk,0,none⟩))/\w'.cell? ⟨gk,0,none⟩=some (.pointer (some ⟨ge,0,none⟩))/\w'.cell? ⟨ge,0,none⟩=some (.pointer (some ⟨g,0,none⟩))/\w'.cell? ⟨g,7,none⟩=some (.int .i64 t)) (first|(exact ae HC _ bl)|go_keep) (first
  |(with_reducible refine(ae CL _ bl).mono ?_;rintro e w2 ⟨rfl,rfl⟩)
  |fail)
 clear CL
 have HC:=hide (fun W bw=>(ae HC W bw).1)
 go_wp2
 have bl:Below w.heap.size w w.drew.drew:=bl.drew
 (try simp only[List.append_eq,List.cons_append,List.nil_append])
 go_region_held3 (fun w'=>w'.cell? ⟨gr,0,none⟩=some (.pointer (some ⟨gd,0,none⟩))) (first|(exact ae HC _ bl)|(exact(aA.way E4).1)|go_keep) (first
  |(with_reducible refine(ae C1 _ bl).mono ?_;rintro e w3 ⟨u3,rfl,n3,bl⟩)
  |(with_reducible refine(ae C2 _ _ bl n3).mono ?_;rintro e w4 ⟨q4,r4,gq,rfl,E4,n4,hq,o4⟩)
  |fail)
 have HX:=hide (ae HF _ _ _ E4 n4 hq o4)
 obtain⟨qa,ql,qc,rfl⟩:=n4.toW.shape
 clear C1 C2 HF HC E4 n4 o4 n3 bl
 go_wp2
 go_ret2
 exact⟨_,rfl,ae HX⟩
set_option maxRecDepth 100000 in
set_option maxHeartbeats 3200000 in
theorem tK(w:World)(gr gd gm gt gk ge g:Nat)(s l m:Int)(T:Tab)(u:Value)(D b n N:Nat)(t:Int)
  (hE:aA w gr gd gm gt gk ge g s l m T) (hT:TB w) (h0:0<=s) (h1:s<=1143914305352105984) (h2:0<=l) (h3:l<=1000) (hd:bh w u D) (b0:2^b<=D) (b1:D<2^(b+1)) (hn:n<=1048575) (hN:(n-(b+1)+67)/64<=N) (hN1:wl D<=N) (hN2:N<=16384) (ht:t=T.clamp.row.getD 4 0) (hlt:¬  (wl D:Int)<t):
  Calls Tryz.prog 91 #[.pointer (some ⟨gr,0,none⟩),u,.int .i64 (n:Int)] w (kM w gr gd gm gt gk ge g s l m T D b n N):=by
 have D0:0<D:=Nat.lt_of_lt_of_le (Nat.two_pow_pos _) b0
 have CZ:=hide (gX hd.inW false (by simp;omega))
 have CI:=hide (jD w n true (by simp;omega))
 have CL:=hide (fun W (bw:Below w.heap.size w W)=>jL (hd.next bw))
 have HC:Hid (∀ W,Below w.heap.size w W->W.cell? ⟨gr,0,none⟩=some (.pointer (some ⟨gd,0,none⟩))/\W.cell? ⟨gd,0,none⟩=some (.pointer (some ⟨gm,0,none⟩))/\W.cell? ⟨gm,0,none⟩=some (.pointer (some ⟨gt,0,none⟩))/\W.cell? ⟨gt,0,none⟩=some (.pointer (some ⟨gk,0,none⟩))/\W.cell? ⟨gk,0,none⟩=some (.pointer (some ⟨ge,0,none⟩))/\W.cell? ⟨ge,0,none⟩=some (.pointer (some ⟨g,0,none⟩))/\W.cell? ⟨g,7,none⟩=some (.int .i64 t)):=fun W bw=>by
  have E:=hE.next bw
  obtain⟨e1,e2,e3,e4,e5⟩:=E.div.way
  have e6:=E.div.mul.toom.kara.tab 4 (by decide)
  rw[<-ht]at e6
  exact⟨E.ptr,e1,e2,e3,e4,e5,e6⟩
 have wP:=zF hn
 have wD:=hd.wlM
 obtain⟨bb,hbb⟩:∃ bb,bb=b+1:=⟨_,rfl⟩
 obtain⟨z,hz⟩:∃ z:Int,z=(n:Int)-(bb:Int):=⟨_,rfl⟩
 obtain⟨K,hK⟩:∃ K,K=nc (n-(b+1)):=⟨_,rfl⟩
 have hKb:=Nk (n-(b+1)) (by omega)
 rw[<-hK]at hKb
 have hb64:b<1048576:=by
  obtain⟨b',q0,q1,q2⟩:=iQ D0 wD
  have a1:b<b'+1:=(Nat.pow_lt_pow_iff_right (a:=2) (by omega)).1 (by omega)
  omega
 have C1:Hid (∀ W,Below w.heap.size w W->Calls Tryz.prog 116 #[.int .i64 (n:Int)] W fun e w'=>∃ r,e=.returned r/\ah w.heap.size w' r (2^n)/\Below w.heap.size w w'):=fun W bw=>(iq W n n (by omega)).mono fun e w' ⟨r,he,hn,hb⟩=>⟨r,he,hn.mono bw.size,ag bw hb⟩
 have C2:Hid (∀ W,Below w.heap.size w W->Calls Tryz.prog 35 #[u] W fun e w'=>e=.returned (.int .i64 (bb:Int))/\w'=W):=fun W bw=>by rw[hbb];exact dj (hd.inW.next bw) b0 b1
 have C3:Hid (∀ W v,Below w.heap.size w W->ah w.heap.size W v (2^n)->Calls Tryz.prog 118 #[.pointer (some ⟨gr,0,none⟩),u,.int .i64 z] W fun e w'=>∃ r X s' m',e=.returned r/\ah w.heap.size w' r X/\wl X<=(n-(b+1)+65)/64/\ah w.heap.size w' v (2^n)/\aA w' gr gd gm gt gk ge g s' l m' T/\s<=s'/\s'<=s+(K:Int)/\m<=m'/\m'<=max m (l+(cZ N:Int))/\Out (·=g) w w'):=fun W v bw nv=>by
  rw[hK]
  refine(Dy W gr gd gm gt gk ge g s l m T u D b n N z (hE.next bw) (hT.next bw) h0 h1 h2 h3 (hd.next bw) b0 b1 hn hN hN2 (by omega)).mono ?_
  rintro e w' ⟨r,X,s',m',j1,j2,j3,j4,j5,j6,j7,j8,j9⟩
  exact⟨r,X,s',m',j1,j2.mono bw.size,j3,(hE.next bw).newW j9 nv,j4,j5,j6,j7,j8,(Out.of_below bw).trans j9⟩
 have C4:Hid (∀ W v x X s' m',ah w.heap.size W v (2^n)->ah w.heap.size W x X->wl X<=(n-(b+1)+65)/64->aA W gr gd gm gt gk ge g s' l m' T->s<=s'->s'<=s+(K:Int)->m<=m'->m'<=max m (l+(cZ N:Int))->Out (·=g) w W->Calls Tryz.prog 117 #[.pointer (some ⟨gr,0,none⟩),v,u,x] W fun e w'=>∃ q r,e=.returned (.tuple #[q,r])/\kM w gr gd gm gt gk ge g s l m T D b n N (.returned (.tuple #[q,.int .i64 0])) w'):=fun W v x X s' m' nv nx hX E k1 k2 k3 k4 o=>by
  refine(pU W gr gd gm gt gk ge g s' l m' T v u x w.heap.size (2^n) D X E (hE.tb o hT) (by omega) (by omega) h2 h3 (nv.wlW (by omega)) (by omega) (hE.inM o hd) nx (by omega) o.size D0).mono ?_
  rintro e w' ⟨q,r,gq,gx,s'',m'',j1,j2,j3,⟨j4,j5,j6⟩,j7,j8,j9,i1,i2,i3⟩
  have hm:8*(wl X*wl D)<=8*((n-(b+1)+65)/64*wl D):=Nat.mul_le_mul_left 8 (Nat.mul_le_mul_right _ hX)
  have hd:=fk (a:=max (wl X) (wl D)) (b:=N) (by omega) (by omega)
  refine⟨q,r,j1,q,gq,s'',m'',rfl,j2,j5,j7,by omega,?_,by omega,by omega,o.trans i3⟩
  unfold OK
  omega
 have i1:(n:Int)-(bb:Int)=z:=hz.symm
 have i2:IntKind.i64.wrap z=z:=by rw[IntKind.wrap_i64];omega
 obtain⟨ga,la,ca,rfl⟩:=hd.inW.is
 generalize kM w gr gd gm gt gk ge g s l m T D b n N=SA at *
 generalize wl D=L at *
 clear ht hE hT h0 h1 h2 h3 hd b0 b1 hn hN hN1 hN2 D0 wP wD hz hbb hK hKb hb64
 generalize 2^n=P at *
 generalize max m (l+(cZ N:Int))=KM at *
 generalize (K:Int)=KK at *
 suffices H:Calls Tryz.prog 91 #[.pointer (some ⟨gr,0,none⟩),.slice ga la ca,.int .i64 (n:Int)] w (fun e w'=>∃ v,e=.returned v/\SA (.returned v) w') from H.mono (fun e w' ⟨v,he,h⟩=>he▸h)
 go_enter Tryz.func91,Tryz.ntmps91
 go_wp2_with fail
 refine(ae CZ).mono ?_
 rintro e w1 ⟨rfl,hw⟩
 obtain rfl:=hw.symm
 clear hw CZ
 go_wp2_with fail
 refine(ae CI).mono ?_
 rintro e w1 ⟨rfl,hw⟩
 obtain rfl:=hw.symm
 clear hw CI
 go_wp2_with fail
 have bl:Below w.heap.size w w.drew:=(Below.refl _ _).drew
 (try simp only[List.append_eq,List.cons_append,List.nil_append])
 go_region_held3 (fun w'=>w'.cell? ⟨gr,0,none⟩=some (.pointer (some ⟨gd,0,none⟩))/\w'.cell? ⟨gd,0,none⟩=some (.pointer (some ⟨gm,0,none⟩))/\w'.cell? ⟨gm,0,none⟩=some (.pointer (some ⟨gt,0,none⟩))/\w'.cell? ⟨gt,0,none⟩=some (.pointer (some ⟨gk,0,none⟩))/\w'.cell? ⟨gk,0,none⟩=some (.pointer (some ⟨ge,0,none⟩))/\w'.cell? ⟨ge,0,none⟩=some (.pointer (some ⟨g,0,none⟩))/\w'.cell? ⟨g,7,none⟩=some (.int .i64 t)) (first|(exact ae HC _ bl)|go_keep) (first
  |(with_reducible refine(ae CL _ bl).mono ?_;rintro e w2 ⟨rfl,rfl⟩)
  |fail)
 clear CL HC
 go_wp2_with fail
 with_reducible refine(ae C1 _ bl).mono ?_
 rintro e w3 ⟨u3,rfl,n3,b3⟩
 have C2:=hide (ae C2 _ b3)
 have C3:=hide (ae C3 _ _ b3 n3)
 obtain⟨ua,ul,uc,rfl⟩:=n3.shape
 clear C1 bl n3 b3
 go_wp2_with fail
 with_reducible refine(ae C2).mono ?_
 rintro e w4 ⟨rfl,hw⟩
 obtain rfl:=hw.symm
 clear C2 hw
 go_wp2_with fail
 with_reducible refine(ae C3).mono ?_
 rintro e w5 ⟨x5,X,s5,m5,rfl,n5,hX,n3,E5,k1,k2,k3,k4,o5⟩
 have C4:=hide (ae C4 _ _ _ _ _ _ n3 n5 hX E5 k1 k2 k3 k4 o5)
 obtain⟨xa,xl,xc,rfl⟩:=n5.shape
 clear C3 n3 n5 hX E5 k1 k2 k3 k4 o5
 go_wp2_with fail
 with_reducible refine(ae C4).mono ?_
 rintro e w6 ⟨q,r,rfl,h6⟩
 have H6:=hide h6
 clear C4 h6
 go_wp2
 go_ret2
 exact⟨_,rfl,ae H6⟩
theorem Ec(w:World)(gr gd gm gt gk ge g:Nat)(s l m:Int)(T:Tab)(u:Value)(D b n N:Nat)
  (hE:aA w gr gd gm gt gk ge g s l m T) (hT:TB w) (h0:0<=s) (h1:s<=1143914305352105984) (h2:0<=l) (h3:l<=1000) (hd:bh w u D) (b0:2^b<=D) (b1:D<2^(b+1)) (hn:n<=1048575) (hN:(n-(b+1)+67)/64<=N) (hN1:wl D<=N) (hN2:N<=16384):
  Calls Tryz.prog 91 #[.pointer (some ⟨gr,0,none⟩),u,.int .i64 (n:Int)] w (kM w gr gd gm gt gk ge g s l m T D b n N):=by
 by_cases hlt:(wl D:Int)<T.clamp.row.getD 4 0
 ·exact zi w gr gd gm gt gk ge g s l m T u D b n N _ hE h0 h1 h2 h3 hd b0 hn rfl hlt
 ·exact tK w gr gd gm gt gk ge g s l m T u D b n N _ hE hT h0 h1 h2 h3 hd b0 b1 hn hN hN1 hN2 rfl hlt
end Go.Proofs.YtgcnhfgpflncaaaGreatDoor
/- By of the landed package recip. -/
namespace Go.Proofs.YtgcnhfgpflncaaaGreatDoor
open Go.RowKit
theorem IG{P V D:Nat}(hD:0<D):V=P/D↔V*D<=P/\P-V*D<D:=by
 constructor
 ·rintro rfl
  have h1:=Nat.div_mul_le_self P D
  have h2:=Nat.lt_div_mul_add hD (a:=P)
  omega
 ·rintro⟨h1,h2⟩
  obtain⟨R,hR⟩:∃ R,R=P-V*D:=⟨_,rfl⟩
  rw[<-hR]at h2
  have e:P=D*V+R:=by rw[Nat.mul_comm D V];omega
  rw[e,Nat.mul_add_div hD,Nat.div_eq_of_lt h2,Nat.add_zero]
set_option maxRecDepth 100000 in
set_option maxHeartbeats 3200000 in
theorem vF(w:World)(gr gd gm gt gk ge g:Nat)(s l m:Int)(T:Tab)(v d:Value)(V D n N:Nat)(q:Bool)
  (hE:aA w gr gd gm gt gk ge g s l m T) (hT:TB w) (h0:0<=s) (h1:s<=1154047404513689600) (h2:0<=l) (h3:l<=1000) (hv:bh w v V) (hd:bh w d D) (hD:0<D) (hn:n<=1048576) (hN:wl V<=N) (hN1:wl D<=N) (hN2:N<=16384) (hq:q=decide (V=2^n/D)):
  Calls Tryz.prog 119 #[.pointer (some ⟨gr,0,none⟩),v,d,.int .i64 (n:Int)] w fun e w'=>∃ s' m',e=.returned (.bool q)/\aA w' gr gd gm gt gk ge g s' l m' T/\s<=s'/\s'<=s+((8*(wl V*wl D):Nat):Int)/\m<=m'/\m'<=max m (l+(cZ N:Int))/\Out (·=g) w w':=by
 have hdp:=fk (a:=max (wl V) (wl D)) (b:=N) (by omega) (by omega)
 have wP:wl (2^n)<=16385:=by
  have:=cL (n:=2^n) (b:=n+1) (by rw[Nat.pow_succ];have:=Nat.two_pow_pos n;omega)
  omega
 have wVD:=gG V D
 have wV:=hv.wlM
 have wD:=hd.wlM
 replace hq:q=decide (V*D<=2^n/\2^n-V*D<D):=by rw[hq];exact decide_eq_decide.2 (IG hD)
 have C1:Hid (∀ W,Below w.heap.size w W->Calls Tryz.prog 116 #[.int .i64 (n:Int)] W fun e w'=>∃ r,e=.returned r/\ah w.heap.size w' r (2^n)/\Below w.heap.size w w'):=fun W bw=>(iq W n n (by omega)).mono fun e w' ⟨r,he,hn,hb⟩=>⟨r,he,hn.mono bw.size,ag bw hb⟩
 have C2:Hid (∀ W u,Below w.heap.size w W->ah w.heap.size W u (2^n)->Calls Tryz.prog 65 #[.pointer (some ⟨gm,0,none⟩),v,d] W fun e w'=>∃ r s' m',e=.returned r/\ah w.heap.size w' r (V*D)/\ah w.heap.size w' u (2^n)/\aA w' gr gd gm gt gk ge g s' l m' T/\s<=s'/\s'<=s+((8*(wl V*wl D):Nat):Int)/\m<=m'/\m'<=max m (l+(cZ N:Int))/\Out (·=g) w w'):=fun W u bw nu=>by
  refine(ip W gr gd gm gt gk ge g s l m T v d V D (hE.next bw) (hT.next bw) h0 h1 h2 h3 (hv.next bw) (hd.next bw)).mono ?_
  rintro e w' ⟨r,s',m',k1,k2,k3,k4,k5,k6,k7,k8⟩
  exact⟨r,s',m',k1,k2.mono bw.size,(hE.next bw).newW k8 nu,k3,k4,k5,k6,by omega,(Out.of_below bw).trans k8⟩
 have CS:=hide (fun W u x (nu:ah w.heap.size W u (2^n)) (nx:ah w.heap.size W x (V*D))=>gA W u x (2^n) (V*D) (nu.wlW (by omega)) (nx.wlW (by omega)))
 have CC:Hid (∀ W x R,Out (·=g) w W->R<=2^n->ah w.heap.size W x R->Calls Tryz.prog 43 #[x,d] W fun e w'=>e=.returned (.int .i64 (aV R D))/\Below W.heap.size W w'):=fun W x R o hR nx=>lQ W x d R D (nx.wlW (by have:=aH hR;omega)) (hE.inW o hd.inW)
 have HC:Hid (∀ W,Below w.heap.size w W->W.cell? ⟨gr,0,none⟩=some (.pointer (some ⟨gd,0,none⟩))/\W.cell? ⟨gd,0,none⟩=some (.pointer (some ⟨gm,0,none⟩))):=fun W b=>(hE.next b).way
 obtain⟨ga,la,ca,rfl⟩:=hv.inW.is
 obtain⟨gb,lb,cb,rfl⟩:=hd.inW.is
 have bl:Below w.heap.size w w.drew:=(Below.refl _ _).drew
 clear hE hT h0 h1 h2 h3 hv hd hD hn hN hN1 hN2 hdp wP wVD wV wD
 generalize ((8*(wl V*wl D):Nat):Int)=KC at *
 generalize max m (l+(cZ N:Int))=KM at *
 generalize 2^n=P at *
 generalize V*D=X at *
 by_cases hle:X<=P
 ·have CS:Hid (∀ W u x,ah w.heap.size W u P->ah w.heap.size W x X->Calls Tryz.prog 45 #[u,x] W fun e w'=>∃ r,e=.returned (.tuple #[r,.bool true])/\ah W.heap.size w' r (P-X)/\Below W.heap.size W w'):=fun W u x nu nx=>(ae CS W u x nu nx).mono fun e w' ⟨b,hh⟩=>by
   rcases hh with⟨_,r,he,hn⟩|⟨hlt,_⟩
   ·exact⟨r,he,hn,b⟩
   ·omega
  obtain⟨c,hc0,hcq⟩:∃ c:Int,aV (P-X) D=c/\decide (c<0)=q:=by
   refine⟨_,rfl,?_⟩
   rw[hq]
   rcases Nat.lt_or_ge (P-X) D with h|h
   ·rw[cK h];simp[hle,h]
   ·rcases Nat.lt_or_ge D (P-X)with h'|h'
    ·rw[cJ h'];simp;omega
    ·rw[de (by omega)];simp;omega
  have CC:=hide (fun W x o nx=>ae CC W x (P-X) o (Nat.sub_le _ _) nx)
  rw[hc0]at CC
  clear hq hc0 hle
  generalize P-X=R at *
  go_enter Tryz.func119,Tryz.ntmps119
  go_wp2_with fail
  (try simp only[List.append_eq,List.cons_append,List.nil_append])
  go_region_held3 (fun w'=>w'.cell? ⟨gr,0,none⟩=some (.pointer (some ⟨gd,0,none⟩))/\w'.cell? ⟨gd,0,none⟩=some (.pointer (some ⟨gm,0,none⟩))) (first|(exact ae HC _ bl)|(exact aA.way E3)|(exact aA.way E2)|go_keep) (first
   |(with_reducible refine(ae C1 _ bl).mono ?_;rintro e w1 ⟨u,rfl,n1,bl⟩)
   |(with_reducible refine(ae C2 _ _ bl n1).mono ?_;rintro e w2 ⟨v,s2,m2,rfl,n2,n1,E2,k1,k2,k3,k4,o2⟩)
   |(with_reducible refine(ae CS _ _ _ n1 n2).mono ?_;rintro e w3 ⟨rr,rfl,n3,b3⟩;have E3:=aA.next E2 b3)
   |fail)
  have CC:=hide (ae CC _ _ (o2.next b3) (n3.mono o2.size))
  have HE:=hide E3
  have o3:=hide (o2.next b3)
  obtain⟨ra,rl,rc,rfl⟩:=n3.shape
  clear C1 C2 CS HC n1 n2 n3 E2 E3 o2 b3 bl
  go_wp2_with fail
  with_reducible refine(ae CC).mono ?_
  rintro e w4 ⟨rfl,b4⟩
  have HE:=hide ((ae HE).next b4)
  have o4:=hide ((ae o3).next b4)
  clear CC b4 o3
  go_wp2
  go_ret
  exact⟨s2,m2,rfl,ae HE,k1,k2,k3,k4,ae o4⟩
 ·have CS:Hid (∀ W u x,ah w.heap.size W u P->ah w.heap.size W x X->Calls Tryz.prog 45 #[u,x] W fun e w'=>e=.returned (.tuple #[.slice none 0 0,.bool false])/\Below W.heap.size W w'):=fun W u x nu nx=>(ae CS W u x nu nx).mono fun e w' ⟨b,hh⟩=>by
   rcases hh with⟨h,_⟩|⟨_,he⟩
   ·omega
   ·exact⟨he,b⟩
  obtain rfl:q=false:=by rw[hq];simp;omega
  clear hq hle CC
  go_enter Tryz.func119,Tryz.ntmps119
  go_wp2_with fail
  (try simp only[List.append_eq,List.cons_append,List.nil_append])
  go_region_held3 (fun w'=>w'.cell? ⟨gr,0,none⟩=some (.pointer (some ⟨gd,0,none⟩))/\w'.cell? ⟨gd,0,none⟩=some (.pointer (some ⟨gm,0,none⟩))) (first|(exact ae HC _ bl)|(exact aA.way E3)|(exact aA.way E2)|go_keep) (first
   |(with_reducible refine(ae C1 _ bl).mono ?_;rintro e w1 ⟨u,rfl,n1,bl⟩)
   |(with_reducible refine(ae C2 _ _ bl n1).mono ?_;rintro e w2 ⟨v,s2,m2,rfl,n2,n1,E2,k1,k2,k3,k4,o2⟩)
   |(with_reducible refine(ae CS _ _ _ n1 n2).mono ?_;rintro e w3 ⟨rfl,b3⟩;have E3:=aA.next E2 b3)
   |fail)
  have HE:=hide E3
  have o3:=hide (o2.next b3)
  clear C1 C2 CS HC n1 n2 E2 E3 o2 b3 bl
  go_wp2
  go_ret
  exact⟨s2,m2,rfl,ae HE,k1,k2,k3,k4,ae o3⟩
theorem GN{A V n b k:Nat}(hA:A<=2^n)(hk:k=n-b):A/2^b*V/2^k<=V:=by
 have hp:=Nat.two_pow_pos b
 by_cases h:b<=n
 ·have h1:A/2^b<=2^k:=by
   refine Nat.le_of_lt_succ ((Nat.div_lt_iff_lt_mul hp).2 ?_)
   rw[Nat.succ_mul, <-Nat.pow_add,show k+b=n by omega]
   omega
  exact Nat.div_le_of_le_mul (Nat.mul_le_mul_right V h1)
 ·have:A/2^b=0:=Nat.div_eq_of_lt (Nat.lt_of_le_of_lt hA (Nat.pow_lt_pow_right (by omega) (by omega)))
  rw[this,Nat.zero_mul,Nat.zero_div]
  omega
theorem Jr{A n b:Nat}(hA:A<=2^n):wl (A/2^b)<=(n-b+64)/64:=by
 refine cL (b:=n-b+1) ((Nat.div_lt_iff_lt_mul (Nat.two_pow_pos b)).2 ?_)
 rw[<-Nat.pow_add]
 exact Nat.lt_of_le_of_lt hA (Nat.pow_lt_pow_right (by omega) (by omega))
set_option maxRecDepth 100000 in
set_option maxHeartbeats 3200000 in
theorem KB(w:World)(gr gd gm gt gk ge g:Nat)(s l m:Int)(T:Tab)(u d v:Value)(A V D b n N:Nat)
  (hE:aA w gr gd gm gt gk ge g s l m T) (hT:TB w) (h0:0<=s) (h1:s<=1154047404513689600) (h2:0<=l) (h3:l<=1000) (hu:aL w u A) (hv:bh w v V) (hd:bh w d D) (b0:2^b<=D) (b1:D<2^(b+1)) (hb:b<=1048576) (hn:n<=1048575) (hA:A<=2^n) (hN:wl V<=N) (hN1:(n-b+64)/64<=N) (hN2:N<=16384):
  Calls Tryz.prog 120 #[.pointer (some ⟨gr,0,none⟩),u,d,v,.int .i64 (n:Int)] w fun e w'=>∃ r G s' m',e=.returned r/\ah w.heap.size w' r G/\G<=V/\aA w' gr gd gm gt gk ge g s' l m' T/\s<=s'/\s'<=s+((8*((n-b+64)/64*wl V):Nat):Int)/\m<=m'/\m'<=max m (l+(cZ N:Int))/\Out (·=g) w w':=by
 obtain⟨k,hk⟩:∃ k,k=n-b:=⟨_,rfl⟩
 obtain⟨bb,hbb⟩:∃ bb,bb=b+1:=⟨_,rfl⟩
 obtain⟨z,hz⟩:∃ z:Int,z=(n:Int)-(b:Int):=⟨_,rfl⟩
 have wT:=Jr (b:=b) hA
 have hG:=GN (V:=V) hA hk
 have hc:8*(wl (A/2^b)*wl V)<=8*((n-b+64)/64*wl V):=Nat.mul_le_mul_left 8 (Nat.mul_le_mul_right _ wT)
 have hdp:=fk (a:=max (wl (A/2^b)) (wl V)) (b:=N) (by omega) (by omega)
 have wM:=gG (A/2^b) V
 have CB:Hid (Calls Tryz.prog 35 #[d] w fun e w'=>e=.returned (.int .i64 (bb:Int))/\w'=w):=by rw[hbb];exact dj hd.inW b0 b1
 have C1:Hid (∀ W,Below w.heap.size w W->Calls Tryz.prog 36 #[u,.int .i64 (b:Int)] W fun e w'=>∃ r,e=.returned r/\ah w.heap.size w' r (A/2^b)/\Below w.heap.size w w'):=fun W bw=>(gi W u b A b (by omega) (hu.next bw)).mono fun e w' ⟨r,k1,k2,k3⟩=>⟨r,k1,k2.mono bw.size,ag bw k3⟩
 have C2:Hid (∀ W x,Below w.heap.size w W->ah w.heap.size W x (A/2^b)->Calls Tryz.prog 65 #[.pointer (some ⟨gm,0,none⟩),x,v] W fun e w'=>∃ r s' m',e=.returned r/\ah w.heap.size w' r (A/2^b*V)/\aA w' gr gd gm gt gk ge g s' l m' T/\s<=s'/\s'<=s+((8*((n-b+64)/64*wl V):Nat):Int)/\m<=m'/\m'<=max m (l+(cZ N:Int))/\Out (·=g) w w'):=fun W x bw nx=>by
  refine(ip W gr gd gm gt gk ge g s l m T x v (A/2^b) V (hE.next bw) (hT.next bw) h0 h1 h2 h3 (nx.wlM (by omega)) (hv.next bw)).mono ?_
  rintro e w' ⟨r,s',m',k1,k2,k3,k4,k5,k6,k7,k8⟩
  exact⟨r,s',m',k1,k2.mono bw.size,k3,k4,by omega,k6,by omega,(Out.of_below bw).trans k8⟩
 have C3:Hid (∀ W x,ah w.heap.size W x (A/2^b*V)->Calls Tryz.prog 36 #[x,.int .i64 z] W fun e w'=>∃ r,e=.returned r/\ah W.heap.size w' r (A/2^b*V/2^k)/\Below W.heap.size W w'):=fun W x nx=>gi W x z _ k (by omega) (nx.wlW (by have:=hv.wlM;omega))
 have HC:Hid (∀ W,Below w.heap.size w W->W.cell? ⟨gr,0,none⟩=some (.pointer (some ⟨gd,0,none⟩))/\W.cell? ⟨gd,0,none⟩=some (.pointer (some ⟨gm,0,none⟩))):=fun W b=>(hE.next b).way
 have i1:(bb:Int)-1=(b:Int):=by omega
 have i2:IntKind.i64.wrap (b:Int)=(b:Int):=by rw[IntKind.wrap_i64];omega
 have i3:(n:Int)-(b:Int)=z:=hz.symm
 have i4:IntKind.i64.wrap z=z:=by rw[IntKind.wrap_i64];omega
 obtain⟨ga,la,ca,rfl⟩:=hu.is
 obtain⟨gb,lb,cb,rfl⟩:=hd.inW.is
 obtain⟨gc,lc,cc,rfl⟩:=hv.inW.is
 have bl:Below w.heap.size w w.drew:=(Below.refl _ _).drew
 clear hE hT h0 h1 h2 h3 hu hv hd b0 b1 hb hn hA hN hN1 hN2 wT hc hdp wM hk hbb hz
 generalize ((8*((n-b+64)/64*wl V):Nat):Int)=KC at *
 generalize max m (l+(cZ N:Int))=KM at *
 generalize A/2^b*V/2^k=G at *
 generalize A/2^b*V=A2 at *
 generalize A/2^b=A1 at *
 go_enter Tryz.func120,Tryz.ntmps120
 go_wp2_with fail
 refine(ae CB).mono ?_
 rintro e w1 ⟨rfl,hw⟩
 obtain rfl:=hw.symm
 clear hw CB
 go_wp2_with fail
 (try simp only[List.append_eq,List.cons_append,List.nil_append])
 go_region_held3 (fun w'=>w'.cell? ⟨gr,0,none⟩=some (.pointer (some ⟨gd,0,none⟩))/\w'.cell? ⟨gd,0,none⟩=some (.pointer (some ⟨gm,0,none⟩))) (first|(exact ae HC _ bl)|(exact aA.way E3)|(exact aA.way E2)|go_keep) (first
  |(with_reducible refine(ae C1 _ bl).mono ?_;rintro e w1 ⟨u,rfl,n1,bl⟩)
  |(with_reducible refine(ae C2 _ _ bl n1).mono ?_;rintro e w2 ⟨v,s2,m2,rfl,n2,E2,k1,k2,k3,k4,o2⟩)
  |(with_reducible refine(ae C3 _ _ n2).mono ?_;rintro e w3 ⟨rr,rfl,n3,b3⟩;have E3:=aA.next E2 b3)
  |fail)
 have HE:=hide E3
 have o3:=hide (o2.next b3)
 have N3:=hide (n3.mono o2.size)
 obtain⟨ra,rl,rc,rfl⟩:=n3.shape
 clear C1 C2 C3 HC n1 n2 n3 E2 E3 o2 b3 bl
 go_wp2
 go_ret
 exact⟨_,G,s2,m2,rfl,ae N3,hG,ae HE,k1,k2,k3,k4,ae o3⟩
end Go.Proofs.YtgcnhfgpflncaaaGreatDoor
/- By of the landed package recip:where all is in order,and where it is not. -/
namespace Go.Proofs.YtgcnhfgpflncaaaGreatDoor
open Go.RowKit
def sO(n b D:Nat):Nat:=8*((n-b+64)/64*wl D)+8*((n-b+64)/64*((n-b+64)/64))+8*((n-b+64)/64*wl D)
def Fq(w:World)(gr gd gm gt gk ge g:Nat)(s l m:Int)(T:Tab)(A D b n N:Nat)(e:Ending)(w':World):Prop:=
 ∃ q r gq gx s' m',e=.returned (.tuple #[q,r,.int .i64 0])/\aS gq (gq+1) w' q (A/D)/\aS gx (gx+1) w' r (A%D)/\(gq≠gx/\w.heap.size<=gq/\w.heap.size<=gx)/\aA w' gr gd gm gt gk ge g s' l m' T/\s<=s'/\s'<=s+(sO n b D:Int)/\m<=m'/\m'<=max m (l+(cZ N:Int))/\Out (·=g) w w'
theorem wJ{n b D:Nat}(b0:2^b<=D):wl (2^n/D)<=(n-b+64)/64:=by
 refine Nat.le_trans (aH ?_) (Jr (A:=2^n) (b:=b) (Nat.le_refl _))
 exact Nat.div_le_div_left b0 (Nat.two_pow_pos b)
set_option maxRecDepth 100000 in
set_option maxHeartbeats 3200000 in
theorem NV(w:World)(gr gd gm gt gk ge g:Nat)(s l m:Int)(T:Tab)(u d v:Value)(A D b n N:Nat)
  (hE:aA w gr gd gm gt gk ge g s l m T) (hT:TB w) (h0:0<=s) (h1:s<=1143914305352105984) (h2:0<=l) (h3:l<=1000) (hu:bh w u A) (hd:bh w d D) (hv:bh w v (2^n/D)) (b0:2^b<=D) (b1:D<2^(b+1)) (hn:n<=1048575) (hA:A<=2^n) (hN:(n-b+64)/64<=N) (hN1:wl D<=N) (hN2:N<=16384):
  Calls Tryz.prog 94 #[.pointer (some ⟨gr,0,none⟩),u,d,v,.int .i64 (n:Int)] w (Fq w gr gd gm gt gk ge g s l m T A D b n N):=by
 have D0:0<D:=Nat.lt_of_lt_of_le (Nat.two_pow_pos _) b0
 have wV:=wJ (n:=n) b0
 have wD:=hd.wlM
 have wA:=hu.wlM
 have hb64:b<1048576:=by
  obtain⟨b',q0,q1,q2⟩:=iQ D0 wD
  have a1:b<b'+1:=(Nat.pow_lt_pow_iff_right (a:=2) (by omega)).1 (by omega)
  omega
 obtain⟨p,hp⟩:∃ p,p=(n-b+64)/64:=⟨_,rfl⟩
 have hp1:p<=16384:=by omega
 rw[<-hp]at wV hN
 obtain⟨c1,hc1⟩:∃ c,c=8*(p*wl D):=⟨_,rfl⟩
 obtain⟨c2,hc2⟩:∃ c,c=8*(p*p):=⟨_,rfl⟩
 have g1:c1<=8*(16384*16384):=by rw[hc1];exact Nat.mul_le_mul_left 8 (Nat.mul_le_mul hp1 wD)
 have g2:c2<=8*(16384*16384):=by rw[hc2];exact Nat.mul_le_mul_left 8 (Nat.mul_le_mul hp1 hp1)
 have hC:sO n b D=c1+c2+c1:=by unfold sO;rw[<-hp,hc1,hc2]
 obtain⟨V,hV⟩:∃ V,V=2^n/D:=⟨_,rfl⟩
 rw[<-hV]at hv wV
 have v1:8*(wl V*wl D)<=c1:=by rw[hc1];exact Nat.mul_le_mul_left 8 (Nat.mul_le_mul_right _ wV)
 have v2:8*(p*wl V)<=c2:=by rw[hc2];exact Nat.mul_le_mul_left 8 (Nat.mul_le_mul_left _ wV)
 have wP:=zF hn
 have CZ:=hide (gX hd.inW false (by simp;omega))
 have C0:=hide (fun W=>jD W n true (by simp;omega))
 have C1:Hid (∀ W,Below w.heap.size w W->Calls Tryz.prog 116 #[.int .i64 (n:Int)] W fun e w'=>∃ r,e=.returned r/\ah w.heap.size w' r (2^n)/\Below w.heap.size w w'):=fun W bw=>(iq W n n (by omega)).mono fun e w' ⟨r,he,hn,hb⟩=>⟨r,he,hn.mono bw.size,ag bw hb⟩
 obtain⟨c,hc0,hc⟩:∃ c:Int,aV A (2^n)=c/\¬0<c:=by
  refine⟨_,rfl,?_⟩
  rcases Nat.lt_or_ge A (2^n)with h|h
  ·rw[cK h];decide
  ·rw[de (by omega)];decide
 have C2:Hid (∀ W x,Below w.heap.size w W->ah w.heap.size W x (2^n)->Calls Tryz.prog 43 #[u,x] W fun e w'=>e=.returned (.int .i64 c)/\Below w.heap.size w w'):=fun W x bw nx=>by
  rw[<-hc0]
  exact(lQ W u x A (2^n) (hu.inW.next bw) (nx.wlW (by omega))).mono fun e w' ⟨k1,k2⟩=>⟨k1,ag bw k2⟩
 have C3:Hid (∀ W,Below w.heap.size w W->Calls Tryz.prog 119 #[.pointer (some ⟨gr,0,none⟩),v,d,.int .i64 (n:Int)] W fun e w'=>∃ s' m',e=.returned (.bool true)/\aA w' gr gd gm gt gk ge g s' l m' T/\s<=s'/\s'<=s+(c1:Int)/\m<=m'/\m'<=max m (l+(cZ N:Int))/\Out (·=g) w w'):=fun W bw=>by
  refine(vF W gr gd gm gt gk ge g s l m T v d V D n N true (hE.next bw) (hT.next bw) h0 (by omega) h2 h3 (hv.next bw) (hd.next bw) D0 (by omega) (by omega) hN1 hN2 (by rw[hV];simp)).mono ?_
  rintro e w' ⟨s',m',k1,k2,k3,k4,k5,k6,k7⟩
  exact⟨s',m',k1,k2,k3,by omega,k5,k6,(Out.of_below bw).trans k7⟩
 have C4:Hid (∀ W s1 m1,aA W gr gd gm gt gk ge g s1 l m1 T->s<=s1->s1<=s+(c1:Int)->m<=m1->m1<=max m (l+(cZ N:Int))->Out (·=g) w W->Calls Tryz.prog 120 #[.pointer (some ⟨gr,0,none⟩),u,d,v,.int .i64 (n:Int)] W fun e w'=>∃ r G s' m',e=.returned r/\ah w.heap.size w' r G/\G<=V/\aA w' gr gd gm gt gk ge g s' l m' T/\s<=s'/\s'<=s+((c1+c2:Nat):Int)/\m<=m'/\m'<=max m (l+(cZ N:Int))/\Out (·=g) w w'):=fun W s1 m1 E k1 k2 k3 k4 o=>by
  refine(KB W gr gd gm gt gk ge g s1 l m1 T u d v A V D b n N E (hE.tb o hT) (by omega) (by omega) h2 h3 (hE.inW o hu.inW) (hE.inM o hv) (hE.inM o hd) b0 b1 (by omega) hn hA (by omega) (by omega) hN2).mono ?_
  rintro e w' ⟨r,G,s',m',j1,j2,j3,j4,j5,j6,j7,j8,j9⟩
  rw[<-hp]at j6
  exact⟨r,G,s',m',j1,j2.mono o.size,j3,j4,by omega,by omega,by omega,by omega,o.trans j9⟩
 have C5:Hid (∀ W x G s1 m1,ah w.heap.size W x G->G<=V->aA W gr gd gm gt gk ge g s1 l m1 T->s<=s1->s1<=s+((c1+c2:Nat):Int)->m<=m1->m1<=max m (l+(cZ N:Int))->Out (·=g) w W->Calls Tryz.prog 117 #[.pointer (some ⟨gr,0,none⟩),u,d,x] W fun e w'=>∃ q r,e=.returned (.tuple #[q,r])/\Fq w gr gd gm gt gk ge g s l m T A D b n N (.returned (.tuple #[q,r,.int .i64 0])) w'):=fun W x G s1 m1 nx hG E k1 k2 k3 k4 o=>by
  have wG:=aH hG
  have v3:8*(wl G*wl D)<=c1:=Nat.le_trans (Nat.mul_le_mul_left 8 (Nat.mul_le_mul_right _ wG)) v1
  have hdp:=fk (a:=max (wl G) (wl D)) (b:=N) (by omega) (by omega)
  refine(pU W gr gd gm gt gk ge g s1 l m1 T u d x w.heap.size A D G E (hE.tb o hT) (by omega) (by omega) h2 h3 (hE.inW o hu.inW) (by omega) (hE.inM o hd) nx (by omega) o.size D0).mono ?_
  rintro e w' ⟨q,r,gq,gx,s'',m'',j1,j2,j3,j4,j7,j8,j9,i1,i2,i3⟩
  exact⟨q,r,j1,q,r,gq,gx,s'',m'',rfl,j2,j3,j4,j7,by omega,by rw[hC];omega,by omega,by omega,o.trans i3⟩
 obtain⟨ga,la,ca,rfl⟩:=hu.inW.is
 obtain⟨gb,lb,cb,rfl⟩:=hd.inW.is
 obtain⟨gc,lc,cc,rfl⟩:=hv.inW.is
 have bl:Below w.heap.size w w:=Below.refl _ _
 clear hE hT h0 h1 h2 h3 hu hv hd b0 b1 hn hA hN hN1 hN2 D0 wV wD wA hb64 hp hp1 hc1 hc2 g1 g2 hC hV v1 v2 wP hc0
 generalize Fq w gr gd gm gt gk ge g s l m T A D b n N=SA at *
 generalize max m (l+(cZ N:Int))=KM at *
 generalize ((c1+c2:Nat):Int)=K2 at *
 generalize (c1:Int)=K1 at *
 generalize 2^n=P at *
 suffices H:Calls Tryz.prog 94 #[.pointer (some ⟨gr,0,none⟩),.slice ga la ca,.slice gb lb cb,.slice gc lc cc,.int .i64 (n:Int)] w (fun e w'=>∃ v,e=.returned v/\SA (.returned v) w') from H.mono (fun e w' ⟨v,he,h⟩=>he▸h)
 go_enter Tryz.func94,Tryz.ntmps94
 go_wp2_with fail
 refine(ae CZ).mono ?_
 rintro e w1 ⟨rfl,hw⟩
 obtain rfl:=hw.symm
 clear hw CZ
 go_wp2_with fail
 refine(ae C0 _).mono ?_
 rintro e w1 ⟨rfl,hw⟩
 obtain rfl:=hw.symm
 clear hw C0
 go_wp2_with fail
 with_reducible refine(ae C1 _ bl).mono ?_
 rintro e w1 ⟨x1,rfl,n1,bl⟩
 have C2:=hide (ae C2 _ _ bl n1)
 obtain⟨xa,xl,xc,rfl⟩:=n1.shape
 clear C1 n1
 go_wp2_with fail
 with_reducible refine(ae C2).mono ?_
 rintro e w2 ⟨rfl,bl⟩
 have C3:=hide (ae C3 _ bl)
 clear C2
 go_wp2_with fail
 with_reducible refine(ae C3).mono ?_
 rintro e w3 ⟨s3,m3,rfl,E3,k1,k2,k3,k4,o3⟩
 have C4:=hide (ae C4 _ _ _ E3 k1 k2 k3 k4 o3)
 clear C3 E3 k1 k2 k3 k4 o3
 go_wp2_with fail
 with_reducible refine(ae C4).mono ?_
 rintro e w4 ⟨x4,G,s4,m4,rfl,n4,hG,E4,k1,k2,k3,k4,o4⟩
 have C5:=hide (ae C5 _ _ _ _ _ n4 hG E4 k1 k2 k3 k4 o4)
 obtain⟨ya,yl,yc,rfl⟩:=n4.shape
 clear C4 n4 hG E4 k1 k2 k3 k4 o4
 go_wp2_with fail
 with_reducible refine(ae C5).mono ?_
 rintro e w5 ⟨q,r,rfl,h5⟩
 have H5:=hide h5
 clear C5 h5
 go_wp2
 go_ret3
 exact⟨_,rfl,ae H5⟩
end Go.Proofs.YtgcnhfgpflncaaaGreatDoor
/- trim,quotientWords and isShort of the landed package div. -/
namespace Go.Proofs.YtgcnhfgpflncaaaGreatDoor
open Go.RowKit
def dF(w:World)(v:Value)(n:Nat):Prop:=∃ ga b o cap xs,v=.slice ga xs.length cap/\Rep w ga b o cap xs/\cn xs/\af xs=n/\xs.length<=16384
theorem dF.inM{w:World}{v:Value}{n:Nat}(h:dF w v n):bh w v n:=by
 obtain⟨ga,b,o,cap,xs,rfl,hr,hc,hv,hl⟩:=h
 exact⟨ga,b,o,cap,xs,rfl,hr,hc.1,hv,hl⟩
theorem dF.next{w w':World}{v:Value}{n:Nat}(h:dF w v n)(hb:Below w.heap.size w w'):dF w' v n:=by
 obtain⟨ga,b,o,cap,xs,rfl,hr,hc,hv,hl⟩:=h
 exact⟨ga,b,o,cap,xs,rfl,hr.next hb,hc,hv,hl⟩
theorem aA.inC{w w':World}{gr gd gm gt gk ge g:Nat}{s l m:Int}{T:Tab}(h:aA w gr gd gm gt gk ge g s l m T)(o:Out (·=g) w w'){v:Value}{n:Nat}(r:dF w v n):dF w' v n:=by
 obtain⟨ga,b,oo,cap,xs,rfl,hr,hc,hv,hl⟩:=r
 exact⟨ga,b,oo,cap,xs,rfl,h.rep o hr,hc,hv,hl⟩
theorem dF.is{w:World}{v:Value}{n:Nat}(h:dF w v n):∃ ga b o cap,v=.slice ga (wl n) cap/\wl n<=cap/\(0<wl n->ga=some ⟨b,o,none⟩):=by
 obtain⟨ga,b,oo,cap,xs,rfl,hr,hc,hv,hl⟩:=h
 have e:=fa hc
 rw[hv]at e
 rw[e]
 exact⟨ga,b,oo,cap,rfl,hr.room,hr.head⟩
theorem ah.toC{B:Nat}{w:World}{v:Value}{n:Nat}(h:ah B w v n)(hn:wl n<=16384):dF w v n:=by
 obtain⟨ga,b,cap,xs,rfl,hr,hc,hv,_⟩:=h.rep
 have e:=fa hc
 rw[hv]at e
 exact⟨ga,b,0,cap,xs,rfl,hr,hc,hv,by omega⟩
theorem dF.wlM{w:World}{v:Value}{n:Nat}(h:dF w v n):wl n<=16384:=h.inM.wlM
theorem Cc(w:World)(ga:Option Addr)(b o cap n m:Nat)(xs:List Nat)(hl:xs.length=n)(hn:n<=1099511627776)(hR:Rep w ga b o cap xs)(hm:m=bY xs n):
  Calls Tryz.prog 69 #[.slice ga n cap] w fun e w'=>e=.returned (.slice ga m cap)/\w'=w:=by
 have hmn:m<=n:=by rw[hm];exact bo xs n
 have hcap:n<=cap:=by have:=hR.room;omega
 have CL:=hide (fun w' (h:w'=w)=>h▸len_any w ga b o cap n xs hl hn hR)
 rw[<-hm]at CL
 clear hm hR
 go_enter Tryz.func69,Tryz.ntmps69
 go_wp2_with fail
 refine(ae CL _ rfl).mono ?_
 rintro e w' ⟨rfl,rfl⟩
 go_wp2
 go_ret
 exact⟨aQ rfl,rfl⟩
theorem fO{w:World}{v:Value}{A:Nat}(h:bh w v A):
  ∃ u,dF w u A/\Calls Tryz.prog 69 #[v] w fun e w'=>e=.returned u/\w'=w:=by
 obtain⟨ga,b,o,cap,xs,rfl,hr,hd,hv,hl⟩:=h
 have e:mX xs=xs.take (bY xs xs.length):=rfl
 have hn:=bo xs xs.length
 have hlen:(mX xs).length=bY xs xs.length:=aI xs
 refine⟨.slice ga (bY xs xs.length) cap,⟨ga,b,o,cap,mX xs,by rw[hlen],by rw[e];exact hr.take _ hn,dB hd,by rw[cX,hv],by omega⟩,?_⟩
 exact Cc w ga b o cap xs.length _ xs rfl (by omega) hr rfl
set_option maxRecDepth 100000 in
set_option maxHeartbeats 1600000 in
theorem zh(w:World)(ga gb:Option Addr)(b o cap na b' o' cap' nb A C Q:Nat)(xs ys:List Nat)(hxl:xs.length=na)(hyl:ys.length=nb)(hR:Rep w ga b o cap xs)(hR':Rep w gb b' o' cap' ys)(hx:cn xs)(hy:cn ys)(hA:af xs=A)(hC:af ys=C)(h0:0<C)(hna:na<=16384)(hnb:nb<=16384)(hQ:Q=wl (A/C)):
  Calls Tryz.prog 87 #[.slice ga na cap,.slice gb nb cap'] w fun e w'=>e=.returned (.int .i64 (Q:Int))/\Below w.heap.size w w':=by
 have eA:=fa hx
 have eC:=fa hy
 rw[hA,hxl]at eA
 rw[hC,hyl]at eC
 have hcap:=hR.room
 rw[hxl]at hcap
 by_cases hlt:na<nb
 ·have e0:=ku (A:=A) (C:=C) (by omega)
  have:Q=0:=by omega
  subst this
  obtain⟨z,hz⟩:∃ z:Int,(na:Int)-(nb:Int)=z:=⟨_,rfl⟩
  have hz0:z<0:=by omega
  have hw:IntKind.i64.wrap z=z:=by rw[IntKind.wrap_i64];omega
  clear hQ e0 eA eC hlt
  go_enter Tryz.func87,Tryz.ntmps87
  go_wp2
  go_ret
  exact⟨rfl,Below.refl _ _⟩
 ·obtain⟨k,hk⟩:∃ k,na=nb+k:=⟨na-nb,by omega⟩
  have hnb0:0<nb:=by
   refine Nat.pos_of_ne_zero fun e=>?_
   rw[e]at eC
   have:=bO.1 eC
   omega
  obtain rfl:=hR.head (by omega)
  obtain⟨cc,hcc⟩:∃ cc,cap-k=cc:=⟨_,rfl⟩
  have hd:=hR.drop k (by omega)
  rw[hcc]at hd
  have hvd:af (xs.drop k)=A/18446744073709551616^k:=by
   have:=qx hx.1 k 0
   rw[Nat.pow_zero,Nat.div_one,Nat.add_zero,Nat.pow_mul]at this
   rw[this,hA]
  have iA:aL w (.slice (some ⟨b,o+k,none⟩) nb cc) (A/18446744073709551616^k):=⟨_,b,o+k,cc,xs.drop k,by rw[show(xs.drop k).length=nb by simp;omega],hd,aU hx.1 k,hvd,by simp;omega⟩
  have iC:aL w (.slice gb nb cap') C:=⟨gb,b',o',cap',ys,by rw[hyl],hR',hy.1,hC,by omega⟩
  have CC:=hide (lQ w _ _ _ _ iA iC)
  obtain⟨c,hc⟩:∃ c:Int,aV (A/18446744073709551616^k) C=c:=⟨_,rfl⟩
  rw[hc]at CC
  have i1:(na:Int)-(nb:Int)=(k:Int):=by omega
  have i2:IntKind.i64.wrap (k:Int)=(k:Int):=by rw[IntKind.wrap_i64];omega
  have i3:¬(k:Int)<0:=by omega
  have j1:k<=na/\k<=cap/\¬cap=k/\na-k=nb:=by omega
  obtain⟨j1,j2,j3,j4⟩:=j1
  obtain⟨k1,hk1⟩:∃ k1,k1=k+1:=⟨_,rfl⟩
  have i4:(k:Int)+1=(k1:Int):=by omega
  have i5:IntKind.i64.wrap (k1:Int)=(k1:Int):=by rw[IntKind.wrap_i64];omega
  by_cases hl:A/18446744073709551616^k<C
  ·have hc0:c<0:=by rw[<-hc,cK hl];decide
   have:Q=k:=by rw[hQ];exact zg h0 (by omega) hl
   subst this
   clear hQ hl hc iA iC hvd hd hR hR' eA eC hlt hk i4 i5 hA hC
   go_enter Tryz.func87,Tryz.ntmps87
   go_wp2_with fail
   with_reducible refine(ae CC).mono ?_
   rintro e w1 ⟨rfl,b1⟩
   go_wp2
   go_ret
   exact⟨rfl,b1⟩
  ·have hc0:¬c<0:=by
    rw[<-hc]
    rcases Nat.lt_or_ge C (A/18446744073709551616^k)with h|h
    ·rw[cJ h];decide
    ·rw[de (by omega)];decide
   have:Q=k1:=by rw[hQ,hk1];exact tJ h0 (by omega) hl
   subst this
   clear hk1 hQ hl hc iA iC hvd hd hR hR' eA eC hlt hk hA hC
   go_enter Tryz.func87,Tryz.ntmps87
   go_wp2_with fail
   with_reducible refine(ae CC).mono ?_
   rintro e w1 ⟨rfl,b1⟩
   go_wp2
   go_ret
   exact⟨rfl,b1⟩
theorem jc{w:World}{u v:Value}{A C:Nat}(hu:dF w u A)(hv:dF w v C)(h0:0<C):
  Calls Tryz.prog 87 #[u,v] w fun e w'=>e=.returned (.int .i64 (wl (A/C):Int))/\Below w.heap.size w w':=by
 obtain⟨ga,b,o,cap,xs,rfl,hr,hd,hA,hl⟩:=hu
 obtain⟨ga',b',o',cap',ys,rfl,hr',hd',hC,hl'⟩:=hv
 exact zh w ga ga' b o cap xs.length b' o' cap' ys.length A C _ xs ys rfl rfl hr hr' hd hd' hA hC h0 hl hl' rfl
end Go.Proofs.YtgcnhfgpflncaaaGreatDoor
/- pieces of the landed package div:a quotient k words at a time,by a call that is handed in. -/
namespace Go.Proofs.YtgcnhfgpflncaaaGreatDoor
open Go.RowKit
def oH(w:World)(v:Value)(n k:Nat):Prop:=∃ ga b o cap xs,v=.slice ga k cap/\xs.length=k/\Rep w ga b o cap xs/\ao xs/\af xs=n
theorem Ko(W:World)(gq Q i R:Nat)(ga:Option Addr)(ba oa cap l:Nat)(zs xs:List Nat)(hZ:aB W gq zs)(hz:zs.length=Q)(hR:Rep W ga ba oa cap xs)(hl:xs.length=l)(hi:i+R=Q)(hlR:l<=R):
  ∃ W',(∀ ty,(Builtin.copy_ #[29,29] ty #[.slice (some ⟨gq,i,none⟩) R R,.slice ga l cap]).run Tryz.prog W=.ok (.int .i64 (l:Int)) W')/\aB W' gq (zs.take i++xs++zs.drop (i+xs.length))/\Out (·=gq) W W':=by
 subst hl
 by_cases h0:xs.length=0
 ·obtain rfl:xs=[]:=List.eq_nil_of_length_eq_zero h0
  refine⟨W,fun ty=>run_copy_none W 29 29 ty 41 _ _ _ _ _ _ Tryz.underlying29 Tryz.sizeU (by simp),by simpa using hZ,Out.refl _ _⟩
 ·obtain rfl:=hR.head (by omega)
  have hZ':W.heap[gq]?=some (.cells (cellsOf zs).toArray 41 (0,0)):=hZ
  have ecl:goInt ((df xs).length:Int)=.int .i64 (xs.length:Int):=by rw[aG];rfl
  have hc:=run_copy_row (P:=Tryz.prog) W 29 29 (cs:=df xs) (elem:=41) (g:=gq) (o:=i) (dLen:=R) (dCap:=R) (a:=⟨ba,oa,none⟩) (sLen:=xs.length) (sCap:=cap) (cur:=(cellsOf zs).toArray) (t:=41)
  have hsr:∀ j v,(df xs)[j]?=some v->W.cell? ((⟨ba,oa,none⟩:Addr).add j)=some v:=by
   intro j v hj
   have hjl:j<xs.length:=by
    have:=(List.getElem?_eq_some_iff.1 hj).1
    rwa [aG]at this
   have:=hR.cell j hjl
   have e:(⟨ba,oa,none⟩:Addr).add j=⟨ba,oa+j,none⟩:=by unfold Addr.add;split<;>simp_all
   rw[e,this, <-hj]
   simp[df,cellsOf,hjl]
  refine⟨_,fun ty=>by rw[<-ecl];exact hc ty Tryz.underlying29 Tryz.sizeU hZ' (by rw[aG];exact(Nat.min_eq_left hlR).symm) hsr (by rw[aG];simp[cellsOf];omega) (cells_one _),?_,?_⟩
  ·have h:=setRow_heap W gq _ ((cellsOf zs).toArray.toList.take i++df xs++(cellsOf zs).toArray.toList.drop (i+(df xs).length)).toArray _ _ hZ'
   show _=_
   rw[h]
   simp[df,cellsOf]
  ·exact Out.of_grown ⟨rfl,rfl,rfl,by simp[World.setRow],fun k hk hne=>setRow_other W gq k _ (fun e=>hne (by rw[e]))⟩
theorem dF.head{w:World}{b o na ca A:Nat}(h:dF w (.slice (some ⟨b,o,none⟩) na ca) A)(h0:0<na):∃ xs,xs.length=na/\Rep w (some ⟨b,o,none⟩) b o ca xs/\cn xs/\af xs=A:=by
 obtain⟨ga,b',o',cap,xs,e,hr,hc,hv,hl⟩:=h
 cases e
 have:=hr.head (by omega)
 cases this
 exact⟨xs,rfl,hr,hc,hv⟩
theorem vp{xs:List Nat}(h:ao xs)(i:Nat):af (xs.drop i)=af xs/18446744073709551616^i:=by
 have:=qx h i 0
 rw[Nat.pow_zero,Nat.div_one,Nat.add_zero,Nat.pow_mul]at this
 exact this
theorem xI{xs:List Nat}(h:ao xs)(k:Nat):af (xs.take k)=af xs%18446744073709551616^k:=by
 have e:=bq xs k
 rw[e,Nat.add_mul_mod_self_left,Nat.mod_eq_of_lt (ei h k)]
theorem dF.piece{w:World}{b o na ca A i k cc:Nat}(h:dF w (.slice (some ⟨b,o,none⟩) na ca) A)(hi:i+k<=na)(hk:0<k)(hcc:cc=ca-i):oH w (.slice (some ⟨b,o+i,none⟩) k cc) (A/18446744073709551616^i%18446744073709551616^k) k:=by
 obtain⟨xs,hl,hr,hc,hv⟩:=h.head (by omega)
 have hd:=hr.drop i (by omega)
 rw[<-hcc]at hd
 have hlen:(xs.drop i).length=na-i:=by simp;omega
 refine⟨_,b,o+i,cc,(xs.drop i).take k,rfl,by simp;omega,hd.take k (by omega),aX (aU hc.1 i) k,?_⟩
 rw[xI (aU hc.1 i),vp hc.1,hv]
theorem dF.above{w:World}{b o na ca A i L cc:Nat}(h:dF w (.slice (some ⟨b,o,none⟩) na ca) A)(hi:i+L=na)(h0:0<na)(hcc:cc=ca-i):dF w (.slice (some ⟨b,o+i,none⟩) L cc) (A/18446744073709551616^i):=by
 have hw:=h.wlM
 obtain⟨xs,hl,hr,hc,hv⟩:=h.head h0
 have e0:=fa hc
 rw[hv]at e0
 have hd:=hr.drop i (by omega)
 rw[<-hcc]at hd
 refine⟨_,b,o+i,cc,xs.drop i,by rw[show(xs.drop i).length=L by simp;omega],hd,⟨aU hc.1 i,fun hp=>?_⟩,by rw[vp hc.1,hv],by simp;omega⟩
 have hp':i<xs.length:=by simp at hp;omega
 have:=hc.2 (by omega)
 rw[List.getD_eq_getElem?_getD,List.getElem?_drop]at *
 simp only[List.length_drop]
 rw[show i+(xs.length-i-1)=xs.length-1 by omega]
 exact this
theorem GY(w:World)(ga:Option Addr)(cap:Nat):dF w (.slice ga 0 cap) 0:=⟨ga,0,0,cap,[],rfl,Rep.nil _ _ _ _ _,iI,rfl,by simp⟩
structure NJ(B g A C k kf P:Nat)(fs cs:Array Value)(St:Nat->World->Prop):Prop where
 go:∀(args:Array Value) (W:World),(callFunc kf args).run Tryz.prog W=.ok (.enter kf args) W
 next:∀ i W W',St i W->Out (fun j=>B<=j) W W'->St i W'
 call:∀ i W u v x y,i<P->B<=W.heap.size->St i W->oH W u x k->dF W v y->y<C->y*18446744073709551616^k+x<=A->
  Calls Tryz.prog kf (fs++#[u,v]++cs) W fun e W'=>∃ q r,e=.returned (.tuple #[q,r])/\ah W.heap.size W' q ((y*18446744073709551616^k+x)/C)/\ah W.heap.size W' r ((y*18446744073709551616^k+x)%C)/\St (i+1) W'/\Out (·=g) W W'
theorem wo(A C i k:Nat):A/18446744073709551616^(i+k)%C*18446744073709551616^k+A/18446744073709551616^i%18446744073709551616^k<=A:=by
 have h1:=Nat.mul_le_mul_right (18446744073709551616^k) (Nat.mod_le (A/18446744073709551616^(i+k)) C)
 have h2:=Nat.div_add_mod (A/18446744073709551616^i) (18446744073709551616^k)
 rw[gP,Nat.mul_comm]at h2
 have h3:=Nat.div_le_self A (18446744073709551616^i)
 omega
structure JS(w:World)(g gq A C Q k tp:Nat)(St:Nat->World->Prop)(j c:Nat)(zs:List Nat)(rv:Value)(wr:World):Prop where
 cnt:c*k+j=tp
 blk:aB wr gq zs
 pq:PQ A C Q zs j
 row:dF wr rv (A/18446744073709551616^j%C)
 new:c≠0->ah (gq+1) wr rv (A/18446744073709551616^j%C)
 st:St c wr
 out:Out (·=g) w wr
theorem JS.after{w wr W2:World}{g gq A C Q k tp i c R:Nat}{St:Nat->World->Prop}{zs:List Nat}{rv q r:Value}(h:JS w g gq A C Q k tp St (i+k) c zs rv wr)(hC:0<C)(hwC:wl C<=16384)(hQ:Q=wl (A/C))(hi:i+R=Q)(hg:g≠gq)(hw:w.heap.size<=gq)
  (hn:∀ i W W',St i W->Out (fun j=>w.heap.size<=j) W W'->St i W')
  (nq:ah wr.heap.size W2 q ((A/18446744073709551616^(i+k)%C*18446744073709551616^k+A/18446744073709551616^i%18446744073709551616^k)/C))
  (nr:ah wr.heap.size W2 r ((A/18446744073709551616^(i+k)%C*18446744073709551616^k+A/18446744073709551616^i%18446744073709551616^k)%C)) (hs:St (c+1) W2) (o:Out (·=g) wr W2):
  ∃ ga l cap W3,q=.slice ga l cap/\(∀ ty,(Builtin.copy_ #[29,29] ty #[.slice (some ⟨gq,i,none⟩) R R,.slice ga l cap]).run Tryz.prog W2=.ok (.int .i64 (l:Int)) W3)/\∃ zs',JS w g gq A C Q k tp St i (c+1) zs' r W3:=by
 obtain⟨f1,f2⟩:=DT (A:=A) (k:=k) hC hQ (show i<=Q by omega)
 obtain⟨-,p2, -⟩:=lk (Z:=A/18446744073709551616^i) hC (eI k)
 rw[gP]at p2
 rw[<-p2]at nr
 obtain⟨ga,b,cap,ps,rfl,hr,hc,hv,hb⟩:=nq.rep
 have hlen:=fa hc
 rw[hv]at hlen
 rw[hlen]at f1 f2
 have hB2:aB W2 gq zs:=o.blk h.blk (fun e=>hg e.symm)
 have hlt:=h.blk.lt
 obtain⟨W3,hcp,hB3,o3⟩:=Ko W2 gq Q i R ga b 0 cap ps.length zs ps hB2 h.pq.len hr rfl hi (by omega)
 have hnr:ah wr.heap.size W3 r (A/18446744073709551616^i%C):=o3.newW nr (fun k e=>by rw[e];exact hlt)
 have hrl:wl (A/18446744073709551616^i%C)<=16384:=Nat.le_trans (aH (Nat.le_of_lt (Nat.mod_lt _ hC))) hwC
 refine⟨ga,ps.length,cap,W3,rfl,hcp,_,⟨?_,hB3,h.pq.step hC hc.1 f1 f2 hv,hnr.toC hrl,fun _=>hnr.mono hlt,hn _ _ _ hs (o3.mono fun k e=>by rw[e];exact hw),Out.fresh (h.out.trans o) o3 (fun k e=>Or.inr (by rw[e];exact hw))⟩⟩
 have:=h.cnt
 rw[Nat.succ_mul]
 omega
theorem JS.fin{w wr:World}{g gq A C Q k tp c:Nat}{St:Nat->World->Prop}{zs:List Nat}{rv:Value}(h:JS w g gq A C Q k tp St 0 c zs rv wr)(hQ:Q=wl (A/C))(hQl:Q<=16384)(hc:c≠0)(hw:w.heap.size<=gq):
  ∃ gx,aS gq (gq+1) wr (.slice (some ⟨gq,0,none⟩) Q Q) (A/C)/\aS gx (gx+1) wr rv (A%C)/\(gq≠gx/\w.heap.size<=gq/\w.heap.size<=gx):=by
 obtain⟨f1,f2⟩:=h.pq.fin hQ
 have hn:=h.new hc
 rw[Nat.pow_zero,Nat.div_one]at hn
 obtain⟨gx,hx,nx⟩:=cF hn
 have hl:=h.pq.len
 refine⟨gx,⟨zs,f1,f2,Or.inr ⟨gq,[],Nat.le_refl _,by omega,by rw[List.append_nil,hl],by rw[List.append_nil];exact h.blk,by simp;omega⟩⟩,nx,by omega,hw,by omega⟩
def JR(w:World)(g A C:Nat)(S:World->Prop)(e:Ending)(w':World):Prop:=∃ q r gq gx,e=.returned (.tuple #[q,r])/\aS gq (gq+1) w' q (A/C)/\aS gx (gx+1) w' r (A%C)/\(gq≠gx/\w.heap.size<=gq/\w.heap.size<=gx)/\S w'/\Out (·=g) w w'
set_option maxRecDepth 100000 in
set_option maxHeartbeats 3200000 in
theorem pI(w:World)(g:Nat)(u v:Value)(A C k kf Q P:Nat)(fs cs:Array Value)(St:Nat->World->Prop)
  (hu:dF w u A) (hv:dF w v C) (hC:0<C) (hk:0<k) (hkC:k<=wl C) (hQ:Q=wl (A/C)) (hQ0:0<Q) (hP:P=cd Q k) (hg:g<w.heap.size)
  (hug:∀ W,Out (·=g) w W->dF W u A) (hI:NJ w.heap.size g A C k kf P fs cs St) (hS:St 0 w):
  Calls Tryz.prog 92 #[u,v,.int .i64 (k:Int),.func (.func kf) fs cs] w (JR w g A C (St P)):=by
 have CQ:=hide (jc hu hv hC)
 have CQ2:Hid (∀ W,Below w.heap.size w W->Calls Tryz.prog 87 #[u,v] W fun e w'=>e=.returned (.int .i64 (Q:Int))/\Below w.heap.size w w'):=fun W bw=>by rw[hQ];exact(jc (hu.next bw) (hv.next bw) hC).mono fun e w' ⟨k1,k2⟩=>⟨k1,ag bw k2⟩
 clear CQ
 have wA:=hu.wlM
 have wC:=hv.wlM
 have hnn:¬wl A<wl C:=fun h=>by have:=ku h;omega
 have qle:=AA (A:=A) hC
 have qge:=Nn (A:=A) hC
 rw[<-hQ]at qle qge
 obtain⟨ht1,ht2⟩:=yt (Q:=Q) hk
 rw[<-hP]at ht1 ht2
 obtain⟨top,htop⟩:∃ top,P*k=top:=⟨_,rfl⟩
 rw[htop]at ht1 ht2
 have hAC:A/18446744073709551616^top<C:=by
  have h1:A/C<18446744073709551616^top:=Nat.lt_of_lt_of_le (dw (l:=Q) (by omega)) (Nat.pow_le_pow_right (by omega) ht1)
  refine(Nat.div_lt_iff_lt_mul (eI top)).2 ?_
  have:=(Nat.div_lt_iff_lt_mul hC).1 h1
  rw[Nat.mul_comm];exact this
 have HAC:=hide hAC
 have HI:=hide hI
 have HS:=hide hS
 have HQ:=hide hQ
 have HP:=hide hP
 have HT:=hide htop
 have HC:=hide hC
 have HG:=hide hg
 have hcf:=hI.go
 obtain⟨ga,b,o,ca,rfl,hca,hga⟩:=hu.is
 obtain⟨gb,_,_,cb,rfl,_,_⟩:=hv.is
 obtain rfl:=hga (by omega)
 have HU:=hide hug
 have R2:Hid (∀ W cc L,Out (·=g) w W->top+L=wl A->cc=ca-top->dF W (.slice (some ⟨b,o+top,none⟩) L cc) (A/18446744073709551616^top)):=fun W cc L oW hL hcc=>(hug W oW).above hL (by omega) hcc
 have R1:Hid (∀ W,wl A<=top->dF W (.slice (some ⟨b,o,none⟩) 0 0) (A/18446744073709551616^top)):=fun W hle=>by
  have:A/18446744073709551616^top=0:=Nat.div_eq_of_lt (dw hle)
  rw[this]
  exact GY _ _ _
 clear hu hv hI hug hS hQ hP htop hC hg hga hAC
 generalize hna:wl A=na at *
 generalize hnb:wl C=nb at *
 have HNB:=hide hnb
 clear hna hnb
 have hmk:=bX Q Q (Q:Int) rfl rfl (by omega)
 obtain⟨s1,hs1⟩:∃ s1,Q+k=s1:=⟨_,rfl⟩
 obtain⟨s2,hs2⟩:∃ s2,s1-1=s2:=⟨_,rfl⟩
 have i1:(Q:Int)+(k:Int)=(s1:Int):=by omega
 have i2:IntKind.i64.wrap (s1:Int)=(s1:Int):=by rw[IntKind.wrap_i64];omega
 have i3:(s1:Int)-1=(s2:Int):=by omega
 have i4:IntKind.i64.wrap (s2:Int)=(s2:Int):=by rw[IntKind.wrap_i64];omega
 have hPd:s2/k=P:=by have:=ae HP;unfold cd at this;rw[this, <-hs2, <-hs1]
 have i5:(s2:Int).tdiv (k:Int)=(P:Int):=by rw[<-hPd];rfl
 have hPl:P<=s2:=by rw[<-hPd];exact Nat.div_le_self _ _
 have i6:IntKind.i64.wrap (P:Int)=(P:Int):=by rw[IntKind.wrap_i64];omega
 have i7:(P:Int)*(k:Int)=(top:Int):=by rw[<-ae HT];simp
 have i8:IntKind.i64.wrap (top:Int)=(top:Int):=by rw[IntKind.wrap_i64];omega
 have i9:¬(k:Int)=0:=by omega
 obtain⟨t0,ht0⟩:∃ t0,top-k=t0:=⟨_,rfl⟩
 have htk:k<=top:=by
  have hP0:1<=P:=by
   refine Nat.pos_of_ne_zero fun e=>?_
   have:=ae HT
   rw[e,Nat.zero_mul]at this
   omega
  rw[<-ae HT]
  exact Nat.le_mul_of_pos_left k hP0
 have i10:(top:Int)-(k:Int)=(t0:Int):=by omega
 have i11:IntKind.i64.wrap (t0:Int)=(t0:Int):=by rw[IntKind.wrap_i64];omega
 have j1:top<=na:=by omega
 have j2:top<=ca:=by omega
 have HF:Hid (∀ W q r gq gx,aS gq (gq+1) W q (A/C)->aS gx (gx+1) W r (A%C)->(gq≠gx/\w.heap.size<=gq/\w.heap.size<=gx)->St P W->Out (·=g) w W->JR w g A C (St P) (.returned (.tuple #[q,r])) W):=fun W q r gq gx a1 a2 a3 a4 a5=>⟨q,r,gq,gx,rfl,a1,a2,a3,a4,a5⟩
 suffices H:Calls Tryz.prog 92 #[.slice (some ⟨b,o,none⟩) na ca,.slice gb nb cb,.int .i64 (k:Int),.func (.func kf) fs cs] w (fun e w'=>∃ v,e=.returned v/\JR w g A C (St P) (.returned v) w') from H.mono (fun e w' ⟨v,he,h⟩=>he▸h)
 generalize JR w g A C (St P)=SA at *
 obtain⟨tp,htp⟩:∃ tp,tp=top:=⟨_,rfl⟩
 have HTP:=hide htp
 clear htp
 by_cases hct:ca=top
 ·subst hct
  have bl0:Below w.heap.size w w:=Below.refl _ _
  go_enter Tryz.func92,Tryz.ntmps92
  go_wp2_with fail
  with_reducible refine(ae CQ2 _ bl0).mono ?_
  rintro e w1 ⟨rfl,b1⟩
  clear bl0 CQ2
  have hB1:=fi w1 Q
  have b2:=ag b1 ((Below.refl _ w1).alloc (Nat.le_refl _) (.cells (aF Q).toArray 41))
  have hgq:=b1.size
  obtain⟨gq,hgqe⟩:∃ gq,w1.heap.size=gq:=⟨_,rfl⟩
  rw[hgqe]at hB1 hgq
  have I0:Hid (∀ rv,dF (w1.alloc (.cells (aF Q).toArray 41)) rv (A/18446744073709551616^ca)->JS w g gq A C Q k tp St tp 0 (List.replicate Q 0) rv (w1.alloc (.cells (aF Q).toArray 41))):=fun rv hr=>by
   have et:=ae HTP
   rw[et]
   exact⟨by omega,hB1,PQ.start (ae HAC),by rw[Nat.mod_eq_of_lt (ae HAC)];exact hr,fun h=>absurd rfl h,(ae HI).next _ _ _ (ae HS) (Out.of_below b2),Out.of_below b2⟩
  have I1:=hide (ae I0 _ ((ae R1) _ (by omega)))
  have i12:((tp:Nat):Int)-(k:Int)=(t0:Int):=by have:=ae HTP;omega
  have htpna:tp<=na:=by have:=ae HTP;omega
  have htpca:na<=ca:=hca
  have htpQ:tp<Q+k:=by have:=ae HTP;omega
  have HQC:=hide wC
  clear I0 hB1 b2 b1 R1 R2
  go_wp2
  go_loopw [9,11] (fun rv iv wr=>∃(j c:Nat) (zs:List Nat) (z:Int),iv=.int .i64 z/\z=(j:Int)-(k:Int)/\j<=tp/\Hid (JS w g gq A C Q k tp St j c zs rv wr)) (fun _ iv _=>(intOf iv+(k:Int)).toNat)
  case atStart=>exact⟨tp,0,_,_,rfl,i12.symm,Nat.le_refl _,I1⟩
  case round=>
   obtain⟨j,c,zs,z,rfl,hz,hjt,hP⟩:=hrel
   have hP:=hide (ae hP)
   by_cases hj:k<=j
   ·obtain⟨i,rfl⟩:∃ i,j=i+k:=⟨j-k,by omega⟩
    obtain rfl:z=(i:Int):=by omega
    obtain⟨t2,ht2e⟩:∃ t2,i+k=t2:=⟨_,rfl⟩
    obtain⟨cc,hcc⟩:∃ cc,ca-i=cc:=⟨_,rfl⟩
    obtain⟨R,hR⟩:∃ R,Q-i=R:=⟨_,rfl⟩
    have hx:=((ae HU) _ (ae hP).out).piece (i:=i) (k:=k) (cc:=cc) (by omega) hk hcc.symm
    have hrow:=(ae hP).row
    have hBw:w.heap.size<=wr.heap.size:=(ae hP).out.size
    have hlC:=Nat.mod_lt (A/18446744073709551616^(i+k)) (ae HC)
    have hcP:c<P:=by
     have h1:=(ae hP).cnt
     rw[ae HTP, <-ae HT]at h1
     have h2:(c+1)*k<=P*k:=by rw[Nat.succ_mul];omega
     exact Nat.le_of_mul_le_mul_right h2 hk
    have CD:=hide ((ae HI).call c wr _ _ _ _ hcP hBw (ae hP).st hx hrow hlC (wo A C i k))
    rw[Array.append_assoc]at CD
    obtain⟨ra,_,_,rc,hrv,_,_⟩:=hrow.is
    have k1:(i:Int)+(k:Int)=(t2:Int):=by omega
    have k2:IntKind.i64.wrap (t2:Int)=(t2:Int):=by rw[IntKind.wrap_i64];omega
    have k3:i<=t2/\t2<=ca/\i<=ca/\¬ca=i/\¬t2=i/\t2-i=k/\t2<=na:=by omega
    obtain⟨k3,k4,k5,k6,k7,k8,k8'⟩:=k3
    have k9:i<=Q/\¬Q=i:=by omega
    obtain⟨k9,k10⟩:=k9
    have kz:0<=(i:Int):=by omega
    obtain⟨z2,hz2⟩:∃ z2:Int,(i:Int)-(k:Int)=z2:=⟨_,rfl⟩
    have hwz:IntKind.i64.wrap z2=z2:=by rw[IntKind.wrap_i64];omega
    have HZ:=hide hz
    have HJ:=hide hjt
    have HT2:=hide ht2e
    clear hx hrow hlC hrv hz hjt ht2e
    clear i1 i2 i3 i4 i5 i6 i7 i8 i9 i10 i11 i12 hmk hs1 hs2 hPd hPl j1 j2 htk I1 wA wC hnn qle qge ht1 ht2
    go_wp2_with fail
    with_reducible refine(ae CD).mono ?_
    rintro e W2 ⟨q,r,rfl,nq,nr,st2,o2⟩
    obtain⟨qa,ql,qc,W3,rfl,hcp,zs',P3⟩:=(ae hP).after (ae HC) (by rw[ae HNB];exact ae HQC) (ae HQ) (R:=R) (by omega) (by have:=ae HG;omega) hgq (ae HI).next nq nr st2 o2
    have HP3:=hide P3
    obtain⟨ra,_,_,rc,rfl,_,_⟩:=P3.row.is
    clear CD nq nr st2 o2 P3
    go_wp2
    go_roundw
    case rel=>exact⟨i,c+1,zs',z2,rfl,hz2.symm,by have:=ae HJ;omega,HP3⟩
    case measure=>simp[intOf];omega
   ·have hj0:j=0:=by
     have h1:=(ae hP).cnt
     rw[ae HTP, <-ae HT]at h1
     have h2:j=(P-c)*k:=by rw[Nat.sub_mul];omega
     rcases Nat.eq_zero_or_pos (P-c)with h3|h3
     ·rw[h3,Nat.zero_mul]at h2;exact h2
     ·have:=Nat.le_mul_of_pos_left k h3;omega
    subst hj0
    have hc0:c=P:=by
     have h1:=(ae hP).cnt
     rw[ae HTP, <-ae HT,Nat.add_zero]at h1
     exact Nat.eq_of_mul_eq_mul_right hk h1
    subst hc0
    have hcn:c≠0:=fun e=>by have:=ae HT;rw[e,Nat.zero_mul]at this;omega
    obtain⟨gx,f1,f2,f3⟩:=(ae hP).fin (ae HQ) (by omega) hcn hgq
    have F:=hide (ae HF _ _ _ _ _ f1 f2 f3 (ae hP).st (ae hP).out)
    have kz:¬0<=z:=by omega
    obtain⟨ra,rl,rc,hrv⟩:=f2.toW.shape
    subst hrv
    clear f1 f2 f3 hP hz
    go_wp2
    go_ret2
    exact⟨_,rfl,ae F⟩
 ·obtain⟨cct,hcct⟩:∃ cct,ca-top=cct:=⟨_,rfl⟩
  obtain⟨ltt,hltt⟩:∃ ltt,na-top=ltt:=⟨_,rfl⟩
  have bl0:Below w.heap.size w w:=Below.refl _ _
  go_enter Tryz.func92,Tryz.ntmps92
  go_wp2_with fail
  with_reducible refine(ae CQ2 _ bl0).mono ?_
  rintro e w1 ⟨rfl,b1⟩
  clear bl0 CQ2
  have hB1:=fi w1 Q
  have b2:=ag b1 ((Below.refl _ w1).alloc (Nat.le_refl _) (.cells (aF Q).toArray 41))
  have hgq:=b1.size
  obtain⟨gq,hgqe⟩:∃ gq,w1.heap.size=gq:=⟨_,rfl⟩
  rw[hgqe]at hB1 hgq
  have I0:Hid (∀ rv,dF (w1.alloc (.cells (aF Q).toArray 41)) rv (A/18446744073709551616^top)->JS w g gq A C Q k tp St tp 0 (List.replicate Q 0) rv (w1.alloc (.cells (aF Q).toArray 41))):=fun rv hr=>by
   have et:=ae HTP
   rw[et]
   exact⟨by omega,hB1,PQ.start (ae HAC),by rw[Nat.mod_eq_of_lt (ae HAC)];exact hr,fun h=>absurd rfl h,(ae HI).next _ _ _ (ae HS) (Out.of_below b2),Out.of_below b2⟩
  have I1:=hide (ae I0 _ ((ae R2) _ cct ltt (Out.of_below b2) (by omega) hcct.symm))
  have i12:((tp:Nat):Int)-(k:Int)=(t0:Int):=by have:=ae HTP;omega
  have htpna:tp<=na:=by have:=ae HTP;omega
  have htpca:na<=ca:=hca
  have htpQ:tp<Q+k:=by have:=ae HTP;omega
  have HQC:=hide wC
  clear I0 hB1 b2 b1 R1 R2
  go_wp2
  go_loopw [9,11] (fun rv iv wr=>∃(j c:Nat) (zs:List Nat) (z:Int),iv=.int .i64 z/\z=(j:Int)-(k:Int)/\j<=tp/\Hid (JS w g gq A C Q k tp St j c zs rv wr)) (fun _ iv _=>(intOf iv+(k:Int)).toNat)
  case atStart=>exact⟨tp,0,_,_,rfl,i12.symm,Nat.le_refl _,I1⟩
  case round=>
   obtain⟨j,c,zs,z,rfl,hz,hjt,hP⟩:=hrel
   have hP:=hide (ae hP)
   by_cases hj:k<=j
   ·obtain⟨i,rfl⟩:∃ i,j=i+k:=⟨j-k,by omega⟩
    obtain rfl:z=(i:Int):=by omega
    obtain⟨t2,ht2e⟩:∃ t2,i+k=t2:=⟨_,rfl⟩
    obtain⟨cc,hcc⟩:∃ cc,ca-i=cc:=⟨_,rfl⟩
    obtain⟨R,hR⟩:∃ R,Q-i=R:=⟨_,rfl⟩
    have hx:=((ae HU) _ (ae hP).out).piece (i:=i) (k:=k) (cc:=cc) (by omega) hk hcc.symm
    have hrow:=(ae hP).row
    have hBw:w.heap.size<=wr.heap.size:=(ae hP).out.size
    have hlC:=Nat.mod_lt (A/18446744073709551616^(i+k)) (ae HC)
    have hcP:c<P:=by
     have h1:=(ae hP).cnt
     rw[ae HTP, <-ae HT]at h1
     have h2:(c+1)*k<=P*k:=by rw[Nat.succ_mul];omega
     exact Nat.le_of_mul_le_mul_right h2 hk
    have CD:=hide ((ae HI).call c wr _ _ _ _ hcP hBw (ae hP).st hx hrow hlC (wo A C i k))
    rw[Array.append_assoc]at CD
    obtain⟨ra,_,_,rc,hrv,_,_⟩:=hrow.is
    have k1:(i:Int)+(k:Int)=(t2:Int):=by omega
    have k2:IntKind.i64.wrap (t2:Int)=(t2:Int):=by rw[IntKind.wrap_i64];omega
    have k3:i<=t2/\t2<=ca/\i<=ca/\¬ca=i/\¬t2=i/\t2-i=k/\t2<=na:=by omega
    obtain⟨k3,k4,k5,k6,k7,k8,k8'⟩:=k3
    have k9:i<=Q/\¬Q=i:=by omega
    obtain⟨k9,k10⟩:=k9
    have kz:0<=(i:Int):=by omega
    obtain⟨z2,hz2⟩:∃ z2:Int,(i:Int)-(k:Int)=z2:=⟨_,rfl⟩
    have hwz:IntKind.i64.wrap z2=z2:=by rw[IntKind.wrap_i64];omega
    have HZ:=hide hz
    have HJ:=hide hjt
    have HT2:=hide ht2e
    clear hx hrow hlC hrv hz hjt ht2e
    clear i1 i2 i3 i4 i5 i6 i7 i8 i9 i10 i11 i12 hmk hs1 hs2 hPd hPl j1 j2 htk I1 wA wC hnn qle qge ht1 ht2
    go_wp2_with fail
    with_reducible refine(ae CD).mono ?_
    rintro e W2 ⟨q,r,rfl,nq,nr,st2,o2⟩
    obtain⟨qa,ql,qc,W3,rfl,hcp,zs',P3⟩:=(ae hP).after (ae HC) (by rw[ae HNB];exact ae HQC) (ae HQ) (R:=R) (by omega) (by have:=ae HG;omega) hgq (ae HI).next nq nr st2 o2
    have HP3:=hide P3
    obtain⟨ra,_,_,rc,rfl,_,_⟩:=P3.row.is
    clear CD nq nr st2 o2 P3
    go_wp2
    go_roundw
    case rel=>exact⟨i,c+1,zs',z2,rfl,hz2.symm,by have:=ae HJ;omega,HP3⟩
    case measure=>simp[intOf];omega
   ·have hj0:j=0:=by
     have h1:=(ae hP).cnt
     rw[ae HTP, <-ae HT]at h1
     have h2:j=(P-c)*k:=by rw[Nat.sub_mul];omega
     rcases Nat.eq_zero_or_pos (P-c)with h3|h3
     ·rw[h3,Nat.zero_mul]at h2;exact h2
     ·have:=Nat.le_mul_of_pos_left k h3;omega
    subst hj0
    have hc0:c=P:=by
     have h1:=(ae hP).cnt
     rw[ae HTP, <-ae HT,Nat.add_zero]at h1
     exact Nat.eq_of_mul_eq_mul_right hk h1
    subst hc0
    have hcn:c≠0:=fun e=>by have:=ae HT;rw[e,Nat.zero_mul]at this;omega
    obtain⟨gx,f1,f2,f3⟩:=(ae hP).fin (ae HQ) (by omega) hcn hgq
    have F:=hide (ae HF _ _ _ _ _ f1 f2 f3 (ae hP).st (ae hP).out)
    have kz:¬0<=z:=by omega
    obtain⟨ra,rl,rc,hrv⟩:=f2.toW.shape
    subst hrv
    clear f1 f2 f3 hP hz
    go_wp2
    go_ret2
    exact⟨_,rfl,ae F⟩
end Go.Proofs.YtgcnhfgpflncaaaGreatDoor
/- isShort of the landed package div. -/
namespace Go.Proofs.YtgcnhfgpflncaaaGreatDoor
open Go.RowKit
theorem aN.way{w:World}{gv gr gd gm gt gk ge g:Nat}{s l m:Int}{T:Tab}(h:aN w gv gr gd gm gt gk ge g s l m T):
  w.cell? ⟨gv,0,none⟩=some (.pointer (some ⟨gr,0,none⟩))/\w.cell? ⟨gr,0,none⟩=some (.pointer (some ⟨gd,0,none⟩))/\w.cell? ⟨gd,0,none⟩=some (.pointer (some ⟨gm,0,none⟩))/\w.cell? ⟨gm,0,none⟩=some (.pointer (some ⟨gt,0,none⟩))/\w.cell? ⟨gt,0,none⟩=some (.pointer (some ⟨gk,0,none⟩))/\w.cell? ⟨gk,0,none⟩=some (.pointer (some ⟨ge,0,none⟩))/\w.cell? ⟨ge,0,none⟩=some (.pointer (some ⟨g,0,none⟩)):=by
 obtain⟨e1,e2,e3,e4,e5⟩:=h.rcp.div.way
 exact⟨h.ptr,h.rcp.ptr,e1,e2,e3,e4,e5⟩
set_option maxRecDepth 100000 in
set_option maxHeartbeats 3200000 in
theorem fm(w:World)(gv gr gd gm gt gk ge g:Nat)(s l m:Int)(T:Tab)(u v:Value)(A C:Nat)(t:Int)(q:Bool)
  (hE:aN w gv gr gd gm gt gk ge g s l m T) (hu:dF w u A) (hv:dF w v C) (h0:0<C) (ht:t=T.clamp.row.getD 3 0) (hq:q=decide ((wl C:Int)<t\/(wl (A/C):Int)<t)):
  Calls Tryz.prog 70 #[.pointer (some ⟨gv,0,none⟩),u,v] w fun e w'=>e=.returned (.bool q)/\Below w.heap.size w w':=by
 have CQ:Hid (∀ u':cH w,Calls Tryz.prog 87 #[u,v] u'.val fun e w'=>e=.returned (.int .i64 (wl (A/C):Int))/\Below u'.val.heap.size u'.val w'):=fun u'=>jc (hu.next u'.old) (hv.next u'.old) h0
 obtain⟨c0,c1,c2,c3,c4,c5,c6⟩:=hE.way
 have c7:=hE.rcp.div.mul.toom.kara.tab 3 (by decide)
 rw[<-ht]at c7
 have q0:=cH.cell c0
 have q1:=cH.cell c1
 have q2:=cH.cell c2
 have q3:=cH.cell c3
 have q4:=cH.cell c4
 have q5:=cH.cell c5
 have q6:=cH.cell c6
 have q7:=cH.cell (p:=⟨g,6,none⟩) c7
 obtain⟨ga,_,_,ca,rfl,_,_⟩:=hu.is
 obtain⟨gb,_,_,cb,rfl,_,_⟩:=hv.is
 generalize wl (A/C)=Q at *
 generalize wl A=na at *
 generalize wl C=nb at *
 clear hE hu hv ht h0 c0 c1 c2 c3 c4 c5 c6 c7
 have inst:=bD w
 by_cases h1:(nb:Int)<t
 ·have:q=true:=by rw[hq];simp[h1]
  subst this
  have h1':decide ((nb:Int)<t)=true:=by simp[h1]
  clear hq h1
  go_enter Tryz.func70,Tryz.ntmps70
  go_wp2_with fail
  refine bn (by kernel_rfl) (by kernel_rfl) ?_
  repeat (go_big_quiet_step (first|(go_at_call 87;exact Calls.old (ae CQ _))|fail))
  refine wpQuiet_nil ?_
  intro w5 hw5
  obtain⟨u,rfl⟩:=hw5
  go_wp2_with fail
  go_ret
  exact⟨rfl,u.old⟩
 ·have h2:decide ((Q:Int)<t)=q:=by rw[hq];simp[h1]
  have h1':decide ((nb:Int)<t)=false:=by simp;omega
  clear hq h1
  go_enter Tryz.func70,Tryz.ntmps70
  go_wp2_with fail
  refine bn (by kernel_rfl) (by kernel_rfl) ?_
  repeat (go_big_quiet_step (first|(go_at_call 87;exact Calls.old (ae CQ _))|fail))
  refine wpQuiet_nil ?_
  intro w5 hw5
  obtain⟨u,rfl⟩:=hw5
  go_wp2_with fail
  go_ret
  exact⟨rfl,u.old⟩
end Go.Proofs.YtgcnhfgpflncaaaGreatDoor
