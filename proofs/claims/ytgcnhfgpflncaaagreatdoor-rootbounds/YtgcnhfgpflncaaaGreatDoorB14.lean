/- A slice of words that came in, as the walks read it. -/
import Derived.Test.YtgcnhfgpflncaaaGreatDoorB12
import Derived.OpenShut
import Derived.Test.YtgcnhfgpflncaaaGreatDoorB7
import Derived.Test.YtgcnhfgpflncaaaGreatDoorB5
import Derived.Deep.QuietTactic
import Derived.BigQuiet
import Derived.WalkSmall
import Derived.Test.YtgcnhfgpflncaaaGreatDoorB1
namespace Go.Proofs.YtgcnhfgpflncaaaGreatDoor
open Go.RowKit
theorem ff{w:World}{a:Option Addr}{len cap:Nat}{zs:List Int}(h:(a=none/\len=0/\cap=0/\zs=[])\/∃ x,a=some x/\len<=cap/\cap<=maxLen/\zs.length=cap/\(∀ i,i<zs.length->w.cell? (x.add i)=some (.int .u64 (zs.getD i 0)))/\∀ n ∈ zs,(Lit.int .u64 n).wf=true):
  ∃ b o xs,xs.length=len/\Rep w a b o cap xs/\∀ j,xs.getD j 0<18446744073709551616:=by
 rcases h with⟨rfl,rfl,rfl,rfl⟩|⟨x,rfl,h1,h2,h3,h4,h5⟩
 ·exact⟨0,0,[],rfl,Rep.nil _ _ _ _ _,fun j=>by simp⟩
 ·by_cases h0:len=0
  ·exact⟨0,0,[],by simp[h0],Rep.nil _ _ _ _ _,fun j=>by simp⟩
  ·obtain⟨b,off,rfl,hc⟩:=ints_at h4 (by omega)
   have hl:((zs.take len).map Int.toNat).length=len:=by simp;omega
   have hg:∀ j,j<len->((zs.take len).map Int.toNat).getD j 0=(zs.getD j 0).toNat:=fun j hj=>by
    have hj2:j<zs.length:=by omega
    simp[List.getD_eq_getElem?_getD,hj,hj2]
   have hw:∀ j,j<len->0<=zs.getD j 0/\zs.getD j 0<=18446744073709551615:=fun j hj=>by
    have hj2:j<zs.length:=by omega
    have e:zs.getD j 0=zs[j]:=by simp[List.getD_eq_getElem?_getD,hj2]
    rw[e];exact bounds_u64 (h5 _ (List.getElem_mem hj2))
   refine⟨b,off,(zs.take len).map Int.toNat,hl,⟨fun _=>rfl,by omega,fun j hj=>?_⟩,fun j=>?_⟩
   ·rw[hl]at hj
    rw[hc j (by omega),hg j hj,Int.toNat_of_nonneg (hw j hj).1]
   ·by_cases hj:j<len
    ·rw[hg j hj];have:=hw j hj;omega
    ·rw[dU (by omega)];omega
end Go.Proofs.YtgcnhfgpflncaaaGreatDoor
/- Rows of words in blocks of their own,as limb's walks read them. -/
namespace Go.Proofs.YtgcnhfgpflncaaaGreatDoor
open Go.RowKit
def aB(w:World)(g:Nat)(zs:List Nat):Prop:=w.heap[g]?=some (.cells (cellsOf zs).toArray 41 (0,0))
theorem aB.lt{w:World}{g:Nat}{zs:List Nat}(h:aB w g zs):g<w.heap.size:=(Array.getElem?_eq_some_iff.1 h).1
theorem aB.cell{w:World}{g:Nat}{zs:List Nat}(h:aB w g zs)(j:Nat)(hj:j<zs.length):w.cell? ⟨g,j,none⟩=some (.int .u64 ((zs.getD j 0:Nat):Int)):=by
 rw[cell_of_row w g j _ _ (0,0) h]
 simp[cellsOf,hj]
theorem aB.frozen{w:World}{g:Nat}{zs:List Nat}(h:aB w g zs)(j:Nat):w.frozen? ⟨g,j,none⟩=false:=frozen_of_row w g j _ _ h
theorem aB.set{w:World}{g:Nat}{zs:List Nat}(h:aB w g zs)(k d:Nat):aB (w.setCell ⟨g,k,none⟩ (.int .u64 ((d:Nat):Int))) g (zs.set k d):=by
 have:=heap_setCell_same w g k _ _ (.int .u64 ((d:Nat):Int)) h
 show _=_
 rw[this]
 simp[cellsOf,List.map_set]
theorem aB.below{w w':World}{B g:Nat}{zs:List Nat}(h:aB w g zs)(hb:Below B w w')(hg:g<B):aB w' g zs:=(hb.block g hg).trans h
theorem aB.next{w w':World}{g:Nat}{zs:List Nat}(h:aB w g zs)(hb:Below w.heap.size w w'):aB w' g zs:=h.below hb h.lt
theorem aB.but{w w':World}{g k:Nat}{zs:List Nat}(h:aB w g zs)(hb:w.grownBy w' (some k))(hk:g≠k):aB w' g zs:=(hb.block g h.lt (fun e=>hk (Option.some.inj e))).trans h
theorem aB.drewN{w:World}{g:Nat}{zs:List Nat}(h:aB w g zs)(n:Nat):aB (w.drewN n) g zs:=h
theorem aB.rep{w:World}{g:Nat}{zs:List Nat}(h:aB w g zs)(o n cap:Nat)(hn:o+n<=zs.length)(hc:n<=cap):Rep w (some ⟨g,o,none⟩) g o cap ((zs.drop o).take n):=by
 have hl:((zs.drop o).take n).length=n:=by simp;omega
 refine⟨fun _=>rfl,by omega,fun j hj=>?_⟩
 rw[hl]at hj
 rw[h.cell (o+j) (by omega)]
 have e:((zs.drop o).take n).getD j 0=zs.getD (o+j) 0:=by
  simp[List.getD_eq_getElem?_getD,hj]
 rw[e]
theorem Rep.but{w w':World}{ga:Option Addr}{b o cap k:Nat}{xs:List Nat}(h:Rep w ga b o cap xs)(hb:w.grownBy w' (some k))(hk:0<xs.length->b≠k):Rep w' ga b o cap xs:=
 ⟨h.head,h.room,fun j hj=>hb.cell (h.cell j hj) (fun e=>hk (by omega) (Option.some.inj e))⟩
def aL(w:World)(v:Value)(n:Nat):Prop:=∃ ga b o cap xs,v=.slice ga xs.length cap/\Rep w ga b o cap xs/\ao xs/\af xs=n/\xs.length<=1073741824
def ah(B:Nat)(w:World)(v:Value)(n:Nat):Prop:=
 ∃ xs,cn xs/\af xs=n/\((v=.slice none 0 0/\xs=[])\/∃ g ys,B<=g/\v=.slice (some ⟨g,0,none⟩) xs.length (xs++ys).length/\aB w g (xs++ys)/\xs.length+ys.length<=1099511627776)
theorem aL.next{w w':World}{v:Value}{n:Nat}(h:aL w v n)(hb:Below w.heap.size w w'):aL w' v n:=by
 obtain⟨ga,b,o,cap,xs,rfl,hr,hd,hv,hl⟩:=h
 exact⟨ga,b,o,cap,xs,rfl,hr.next hb,hd,hv,hl⟩
theorem ah.next{B:Nat}{w w':World}{v:Value}{n:Nat}(h:ah B w v n)(hb:Below w.heap.size w w'):ah B w' v n:=by
 obtain⟨xs,hc,hv,h|⟨g,ys,hg,rfl,hk,hl⟩⟩:=h
 ·exact⟨xs,hc,hv,Or.inl h⟩
 ·exact⟨xs,hc,hv,Or.inr ⟨g,ys,hg,rfl,hk.next hb,hl⟩⟩
theorem ah.mono{B B':Nat}{w:World}{v:Value}{n:Nat}(h:ah B w v n)(hb:B'<=B):ah B' w v n:=by
 obtain⟨xs,hc,hv,h|⟨g,ys,hg,rfl,hk,hl⟩⟩:=h
 ·exact⟨xs,hc,hv,Or.inl h⟩
 ·exact⟨xs,hc,hv,Or.inr ⟨g,ys,Nat.le_trans hb hg,rfl,hk,hl⟩⟩
theorem ah.rep{B:Nat}{w:World}{v:Value}{n:Nat}(h:ah B w v n):∃ ga b cap xs,v=.slice ga xs.length cap/\Rep w ga b 0 cap xs/\cn xs/\af xs=n/\(0<xs.length->B<=b):=by
 obtain⟨xs,hc,hv,⟨rfl,rfl⟩|⟨g,ys,hg,rfl,hk,hl⟩⟩:=h
 ·exact⟨none,0,0,[],rfl,Rep.nil _ _ _ _ _,hc,hv,fun h=>absurd h (by simp)⟩
 ·have:=hk.rep 0 xs.length (xs++ys).length (by simp) (by simp)
  rw[List.drop_zero,List.take_left]at this
  exact⟨_,g,_,xs,rfl,this,hc,hv,fun _=>hg⟩
theorem ah.toIn{B:Nat}{w:World}{v:Value}{n p:Nat}(h:ah B w v n)(hn:n<18446744073709551616^p)(hp:p<=1073741824):aL w v n:=by
 obtain⟨ga,b,cap,xs,rfl,hr,hc,hv,_⟩:=h.rep
 exact⟨ga,b,0,cap,xs,rfl,hr,hc.1,hv,by have:=dE hc (L:=p) (by rw[hv];exact hn);omega⟩
theorem me(B:Nat)(w:World):ah B w (.slice none 0 0) 0:=⟨[],iI,rfl,Or.inl ⟨rfl,rfl⟩⟩
theorem Il{B:Nat}{w:World}{g:Nat}{zs:List Nat}(hg:B<=g)(h:aB w g zs)(hd:ao zs)(hl:zs.length<=1099511627776):ah B w (.slice (some ⟨g,0,none⟩) (bY zs zs.length) zs.length) (af zs):=by
 refine⟨mX zs,dB hd,cX zs,Or.inr ⟨g,zs.drop (bY zs zs.length),hg,?_,?_,?_⟩⟩
 ·rw[aI];congr 1;unfold mX;rw[List.take_append_drop]
 ·unfold mX;rw[List.take_append_drop];exact h
 ·rw[aI];have:=bo zs zs.length;simp;omega
end Go.Proofs.YtgcnhfgpflncaaaGreatDoor
/- Len of api's Nat;trim,copyOf,wider and within of limb. -/
namespace Go.Proofs.YtgcnhfgpflncaaaGreatDoor
open Go.RowKit
set_option maxHeartbeats 400000 in
theorem len_any(w:World)(ga:Option Addr)(b o cap n:Nat)(xs:List Nat)(hl:xs.length=n)(hn:n<=1099511627776)(hR:Rep w ga b o cap xs):
  Calls Tryz.prog 32 #[.slice ga n cap] w fun e w'=>e=.returned (.int .i64 (bY xs n:Int))/\w'=w:=by
 obtain⟨hh,hr,hc⟩:=hR
 go_enter Tryz.func32,Tryz.ntmps32
 go_wp2
 go_loop [3] (fun k=>∃ q:Nat,q<=n/\k=.int .i64 q/\Hid (bY xs n=bY xs q)) (fun k=>(intOf k).toNat)
 case atStart=>exact⟨n,Nat.le_refl _,rfl,rfl⟩
 case round=>
  obtain⟨q,hq,rfl,hN⟩:=hrel
  by_cases hlt:0<q
  ·obtain⟨k,rfl⟩:∃ k,q=k+1:=⟨q-1,by omega⟩
   obtain rfl:=hh (by omega)
   have hk:=hc k (by omega)
   go_wp2
   ·have hz:xs.getD k 0=0:=by
     have h:(((xs[k]?.getD 0:Nat):Int)==0)=true:=by assumption
     rw[List.getD_eq_getElem?_getD];have:=eq_of_beq h;omega
    exact⟨⟨k,by omega,rfl,hN.out.trans (As xs k hz)⟩,by simp[intOf]⟩
   ·have hz:0<xs.getD k 0:=by
     have h:(((xs[k]?.getD 0:Nat):Int)==0)=false:=by assumption
     rw[List.getD_eq_getElem?_getD];have:=ne_of_beq_false h;omega
    have e:=hN.out.trans (rK xs k hz)
    go_ret
    exact⟨ax (by rw[e];rfl),rfl⟩
  ·obtain rfl:q=0:=by omega
   go_wp2
   go_ret
   exact⟨ax (by rw[hN.out];rfl),rfl⟩
set_option maxHeartbeats 400000 in
theorem qh(w:World)(ga:Option Addr)(b o cap n m:Nat)(xs:List Nat)(hl:xs.length=n)(hn:n<=1099511627776)(hR:Rep w ga b o cap xs)(hm:m=bY xs n):
  Calls Tryz.prog 51 #[.slice ga n cap] w fun e w'=>e=.returned (.slice ga m cap)/\w'=w:=by
 have hmn:m<=n:=by rw[hm];exact bo xs n
 have hcap:n<=cap:=by have:=hR.room;omega
 have CL:=hide (fun w' (h:w'=w)=>h▸len_any w ga b o cap n xs hl hn hR)
 rw[<-hm]at CL
 clear hm hR
 go_enter Tryz.func51,Tryz.ntmps51
 go_wp2_with fail
 refine(ae CL _ rfl).mono ?_
 rintro e w' ⟨rfl,rfl⟩
 go_wp2
 go_ret
 exact⟨aQ rfl,rfl⟩
theorem ft(xs:List Nat)(n m:Nat)(h:xs.length=n):splice (aF (n+m)) 0 (df xs)=cellsOf (xs++List.replicate m 0):=by
 simp[splice,aF,df,cellsOf,h]
theorem bX(n cp:Nat)(z:Int)(hz:z=(cp:Int))(h:cp=n)(hb:cp<=2199023255552):∀ w,(Instr.makeSlice 29 (.int .i64 z) (.int .i64 z)).run Tryz.prog w=.ok (.slice (some ⟨w.heap.size,0,none⟩) n n) (w.alloc (.cells (aF n).toArray 41)):=fun w=>by
 obtain⟨i0,hi,hz0,hz1,hz2⟩:=info_parts Tryz.infoU
 subst hz h
 have h:=run_make (P:=Tryz.prog) w 29 41 i0 (.int .u64 0) Tryz.underlying29 hi hz0 .i64 .i64 (cp:Int) (cp:Int) (by omega) (by omega) (by rw[hz2];omega) (by omega)
 rw[h]
 have e1:((cp:Int)).toNat=cp:=by omega
 rw[e1,hz1,Nat.mul_one,iY]
set_option maxRecDepth 100000 in
set_option maxHeartbeats 1600000 in
theorem fV(w:World)(ga:Option Addr)(b o cap n:Nat)(xs:List Nat)(hl:xs.length=n)(hn:n<=1099511627776)(hR:Rep w ga b o cap xs):
  Calls Tryz.prog 53 #[.slice ga n cap] w fun e w'=>e=.returned (.slice (some ⟨w.heap.size,0,none⟩) n n)/\aB w' w.heap.size xs/\Below w.heap.size w w':=by
 have hmk:=bX n n (n:Int) rfl rfl (by omega)
 have HC:=hide (fun ob=>iS hR ob)
 go_enter Tryz.func53,Tryz.ntmps53
 go_wp2_with (refine wpList_copy_splice rfl _ _ 29 29 rfl 41 Tryz.underlying29 Tryz.sizeU _ _ n n n cap rfl rfl w.heap.size 0 (aF n) 41 ?h1 (df xs) ?h2 ?h3 ?h4 (cells_one _) w.heap.size w ?h5 (Nat.le_refl _) ?_)
 case h1=>exact heap_alloc_new w _
 case h2=>rw[aG,hl];exact(Nat.min_self n).symm
 case h3=>exact ae HC _
 case h4=>rw[aG,dr,hl];omega
 case h5=>exact(Below.refl _ _).alloc (Nat.le_refl _) _
 intro w2 hblk hb2
 have hB:aB w2 w.heap.size xs:=by
  have e:=ft xs n 0 hl
  rw[Nat.add_zero]at e
  have h:=hblk.out
  rw[e,List.replicate_zero,List.append_nil]at h
  exact h
 clear hblk HC hmk
 go_wp2
 go_ret
 exact⟨aQ rfl,hB,hb2⟩
set_option maxRecDepth 100000 in
set_option maxHeartbeats 1600000 in
theorem su(w:World)(ga gb:Option Addr)(b o ca cb n m N:Nat)(xs:List Nat)(hl:xs.length=n)(hn:n<=1099511627776)(hm:m<=1099511627776)(hR:Rep w ga b o ca xs)(hN:N=max n m+1):
  Calls Tryz.prog 74 #[.slice ga n ca,.slice gb m cb] w fun e w'=>e=.returned (.slice (some ⟨w.heap.size,0,none⟩) N N)/\aB w' w.heap.size (xs++List.replicate (N-n) 0)/\Below w.heap.size w w':=by
 have HC:=hide (fun ob=>iS hR ob)
 have hcase:(¬n<m/\N=n+1/\((n:Int)+1=(N:Int)))\/(n<m/\N=m+1/\((m:Int)+1=(N:Int))):=by omega
 have hNn:n+1<=N:=by omega
 clear hN hR
 rcases hcase with⟨hlt,hN,hZ⟩|⟨hlt,hN,hZ⟩
 ·have hmk:=bX N N ((n:Int)+1) hZ rfl (by omega)
  have hNb:N<=1099511627777:=by omega
  clear hN hZ
  go_enter Tryz.func74,Tryz.ntmps74
  go_wp2_with (refine wpList_copy_splice rfl _ _ 29 29 rfl 41 Tryz.underlying29 Tryz.sizeU _ _ N N n ca rfl rfl w.heap.size 0 (aF N) 41 ?h1 (df xs) ?h2 ?h3 ?h4 (cells_one _) w.heap.size w ?h5 (Nat.le_refl _) ?_)
  case h1=>exact heap_alloc_new w _
  case h2=>rw[aG,hl];exact(Nat.min_eq_left (by omega)).symm
  case h3=>exact ae HC _
  case h4=>rw[aG,dr,hl];omega
  case h5=>exact(Below.refl _ _).alloc (Nat.le_refl _) _
  intro w2 hblk hb2
  have hB:aB w2 w.heap.size (xs++List.replicate (N-n) 0):=by
   have e:=ft xs n (N-n) hl
   rw[show n+(N-n)=N from by omega]at e
   have h:=hblk.out
   rw[e]at h
   exact h
  clear hblk HC hmk
  go_wp2
  go_ret
  exact⟨aQ rfl,hB,hb2⟩
 ·have hmk:=bX N N ((m:Int)+1) hZ rfl (by omega)
  have hNb:N<=1099511627777:=by omega
  clear hN hZ
  go_enter Tryz.func74,Tryz.ntmps74
  go_wp2_with (refine wpList_copy_splice rfl _ _ 29 29 rfl 41 Tryz.underlying29 Tryz.sizeU _ _ N N n ca rfl rfl w.heap.size 0 (aF N) 41 ?h1 (df xs) ?h2 ?h3 ?h4 (cells_one _) w.heap.size w ?h5 (Nat.le_refl _) ?_)
  case h1=>exact heap_alloc_new w _
  case h2=>rw[aG,hl];exact(Nat.min_eq_left (by omega)).symm
  case h3=>exact ae HC _
  case h4=>rw[aG,dr,hl];omega
  case h5=>exact(Below.refl _ _).alloc (Nat.le_refl _) _
  intro w2 hblk hb2
  have hB:aB w2 w.heap.size (xs++List.replicate (N-n) 0):=by
   have e:=ft xs n (N-n) hl
   rw[show n+(N-n)=N from by omega]at e
   have h:=hblk.out
   rw[e]at h
   exact h
  clear hblk HC hmk
  go_wp2
  go_ret
  exact⟨aQ rfl,hB,hb2⟩
end Go.Proofs.YtgcnhfgpflncaaaGreatDoor
/- Same and Spoil of keep. -/
namespace Go.Proofs.YtgcnhfgpflncaaaGreatDoor
open Go.RowKit
theorem aB.whole{w:World}{g n:Nat}{zs:List Nat}(h:aB w g zs)(hn:zs.length=n):Rep w (some ⟨g,0,none⟩) g 0 n zs:=by
 have:=h.rep 0 n n (by omega) (Nat.le_refl _)
 rw[List.drop_zero,List.take_of_length_le (by omega)]at this
 exact this
set_option maxRecDepth 100000 in
set_option maxHeartbeats 1600000 in
theorem l8(w:World)(ga gb:Option Addr)(ba oa ca bb ob cb n:Nat)(xs:List Nat)(hx:xs.length=n)(hn:n<=1073741824)(hA:Rep w ga ba oa ca xs)(hB:Rep w gb bb ob cb xs):
  Calls Tryz.prog 30 #[.slice ga n ca,.slice gb n cb] w fun e w'=>e=.returned (.bool true)/\Below w.heap.size w w':=by
 have q1:((n:Int)!=(n:Int))=false:=by simp
 go_enter Tryz.func30,Tryz.ntmps30
 go_wp2
 go_loopw [5] (fun i wr=>∃ k:Nat,k<=n/\i=.int .i64 (k:Int)/\Below w.heap.size w wr) (fun i _=>n-(intOf i).toNat)
 case atStart=>exact⟨0,Nat.zero_le _,rfl,Below.refl _ _⟩
 case round=>
  obtain⟨k,hk,rfl,hnx⟩:=hrel
  by_cases h1:k<n
  ·obtain rfl:=hA.head (by omega)
   obtain rfl:=hB.head (by omega)
   obtain⟨x,hxe⟩:∃ x:Nat,x=xs.getD k 0:=⟨_,rfl⟩
   have c1:wr.cell? ⟨ba,oa+k,none⟩=some (.int .u64 (x:Int)):=by rw[hxe];exact(hnx.cell (by exact hA.lt (by omega))).trans (hA.cell k (by omega))
   have c2:wr.cell? ⟨bb,ob+k,none⟩=some (.int .u64 (x:Int)):=by rw[hxe];exact(hnx.cell (by exact hB.lt (by omega))).trans (hB.cell k (by omega))
   have s2:((x:Int)!=(x:Int))=false:=by simp
   clear hxe
   go_wp2
   go_quiet (fail)
   go_wp2
   exact⟨⟨k+1,by omega,by go_num,below_drewN hnx _⟩,by simp[intOf];omega⟩
  ·go_wp2
   go_ret
   exact⟨rfl,hnx⟩
set_option maxRecDepth 100000 in
set_option maxHeartbeats 1600000 in
theorem EH(w:World)(g n cap:Nat)(z0:List Nat)(hz:z0.length=cap)(_hn:n<=cap)(hc:cap<=1099511627776)(hB:aB w g z0):
  Calls Tryz.prog 17 #[.slice (some ⟨g,0,none⟩) n cap] w fun e w'=>e=.returned (.tuple #[])/\w.grownBy w' (some g):=by
 go_enter Tryz.func17,Tryz.ntmps17
 go_wp2
 go_loopw [3] (fun i wr=>∃(k:Nat) (zs:List Nat),k<=cap/\i=.int .i64 (k:Int)/\zs.length=cap/\aB wr g zs/\w.grownBy wr (some g)) (fun i _=>cap-(intOf i).toNat)
 case atStart=>exact⟨0,z0,Nat.zero_le _,rfl,hz,hB,bK _ _⟩
 case round=>
  obtain⟨k,zs,hk,rfl,hzl,hBlk,hG⟩:=hrel
  by_cases h1:k<cap
  ·have cr:=hBlk.cell k (by omega)
   have fr:=hBlk.frozen k
   go_wp2
   exact⟨⟨k+1,zs.set k 8608480567731124087,by omega,by go_num,by simpa using hzl,hBlk.set k 8608480567731124087,az hG (aj _ _ _ _)⟩,by simp[intOf];omega⟩
  ·go_wp2
   go_end0
   exact⟨rfl,hG⟩
set_option maxHeartbeats 800000 in
theorem EI(w:World):Calls Tryz.prog 17 #[.slice none 0 0] w fun e w'=>e=.returned (.tuple #[])/\w'=w:=by
 go_enter Tryz.func17,Tryz.ntmps17
 go_wp2
 refine wp_loop_rounds 1 ?_
 rw[rounds_succ]
 go_wp2
 go_end0
 exact⟨rfl,rfl⟩
end Go.Proofs.YtgcnhfgpflncaaaGreatDoor
/- To and Same of the reference:digits become words again,and are held against words. -/
namespace Go.Proofs.YtgcnhfgpflncaaaGreatDoor
open Go.RowKit
theorem fp{w:World}{base t n:Nat}{v:Value}{xs:List Nat}(h:w.ownsRow base t 1 v n (cellsOf xs)):∃ ga b cap,v=.slice ga n cap/\xs.length=n/\Rep w ga b 0 cap xs/\(0<n->base<=b):=by
 have hl:xs.length=n:=by simpa using h.1
 rcases h.2 with⟨rfl,rfl⟩|⟨g,cap,cur,rfl,hb,hg,hc,hm,hs,ht⟩
 ·obtain rfl:xs=[]:=List.length_eq_zero_iff.1 hl
  exact⟨none,0,0,rfl,rfl,Rep.nil _ _ _ _ _,fun h=>absurd h (by omega)⟩
 ·exact⟨_,g,cap,rfl,hl,(aP ⟨h.1,Or.inr ⟨g,cap,cur,rfl,hb,hg,hc,hm,hs,ht⟩⟩).2,fun _=>hb⟩
theorem fD{B:Nat}{a w w':World}{v:Value}{t n:Nat}{xs:List Value}(h:Below B a w)(ho:w.ownsRow B t 1 v n xs)(hg:w.grownBy w' v.ownBlock)(hB:B<=w.heap.size):Below B a w':=
 h.grown hg hB (fun k hk=>(ho.lt k hk).1)
theorem rM{w1:World}{B t k d:Nat}{v:Value}{os:List Nat}(h:w1.ownsRow B t 1 v (k+1) (cellsOf os++[.int .u64 ((d:Nat):Int)])):
  w1.ownsRow B t 1 v (k+1) (cellsOf (os++[d])):=by simpa using h
def JP(xs:List Nat)(k:Nat):Nat:=xs.getD (2*k) 0+4294967296*xs.getD (2*k+1) 0
def xR(xs:List Nat):Nat->List Nat
 |0=>[]
 |k+1=>xR xs k++[JP xs k]
theorem eZ(xs:List Nat):∀ k,(xR xs k).length=k
 |0=>rfl
 |k+1=>by simp[xR,eZ xs k]
theorem OD{xs:List Nat}(h:js xs)(k:Nat):JP xs k<18446744073709551616:=by
 have h1:=h (2*k)
 have h2:=h (2*k+1)
 unfold JP;omega
theorem AZ(xs:List Nat):∀ k,af (xR xs k)=val (xs.take (2*k))
 |0=>rfl
 |k+1=>by
  rw[xR,sC,eZ,AZ xs k,show 2*(k+1)=2*k+1+1 from by omega,aD,aD,lF,Nat.pow_succ]
  unfold JP
  rw[Nat.mul_add,Nat.mul_assoc]
  omega
theorem AY{xs:List Nat}(h:js xs):∀ k,ao (xR xs k)
 |0=>qj
 |k+1=>Fa (AY h k) (OD h k)
theorem MO{xs:List Nat}{k:Nat}(h:Can xs)(hk:k<xs.length-k)(h2:xs.length<=2*k+2):0<JP xs k:=by
 have:=h.2 (by omega)
 unfold JP
 rcases(show xs.length-1=2*k\/xs.length-1=2*k+1 from by omega)with e|e
 ·rw[e]at this;omega
 ·rw[e]at this;omega
theorem xT(xs:List Nat)(k:Nat):(xR xs (k+1)).getD k 0=JP xs k:=by
 rw[xR,cR,if_neg (by rw[eZ];omega),eZ]
 simp
def NM(w:World)(n:Nat)(e:Ending)(w':World):Prop:=∃ ga b cap ws,e=.returned (.slice ga ws.length cap)/\Rep w' ga b 0 cap ws/\cn ws/\af ws=n/\Below w.heap.size w w'/\(0<ws.length->w.heap.size<=b)
set_option maxRecDepth 100000 in
set_option maxHeartbeats 3200000 in
theorem Jq(w:World)(ga:Option Addr)(ba oa ca la:Nat)(xs:List Nat)(hx:xs.length=la)(ha:la<=1073741824)(hA:Rep w ga ba oa ca xs)(cx:Can xs):
  Calls Tryz.prog 25 #[.slice ga la ca] w (NM w (val xs)):=by
 obtain⟨i0,hi,hz0,hz1,hz2⟩:=info_parts Tryz.infoU
 go_enter Tryz.func25,Tryz.ntmps25
 go_wp2
 go_loopw [3,4] (fun out i wr=>∃(k:Nat) (gw:Option Addr) (cw:Nat),2*k<=la+1/\i=.int .i64 (2*(k:Int))/\out=.slice gw k cw/\
   wr.ownsRow w.heap.size 41 1 (.slice gw k cw) k (cellsOf (xR xs k))/\Below w.heap.size w wr)
  (fun _ i _=>la+1-(intOf i).toNat)
 case atStart=>exact⟨0,none,0,by omega,rfl,rfl,World.ownsRow_nil _ _ _ _,Below.refl _ _⟩
 case round=>
  obtain⟨k,gw,cw,hk,rfl,rfl,hown,hnx⟩:=hrel
  have hsz:=hnx.size
  by_cases h1:2*k<la
  ·obtain rfl:=hA.head (by omega)
   obtain⟨x,hxe⟩:∃ x:Nat,x=xs.getD (2*k) 0:=⟨_,rfl⟩
   obtain⟨y,hye⟩:∃ y:Nat,y=xs.getD (2*k+1) 0:=⟨_,rfl⟩
   have hx32:x<4294967296:=by rw[hxe];exact cx.1 _
   have hy32:y<4294967296:=by rw[hye];exact cx.1 _
   have cx0:wr.cell? ⟨ba,oa+2*k,none⟩=some (.int .u64 (x:Int)):=by rw[hxe];exact(hnx.cell (by exact hA.lt (by omega))).trans (hA.cell (2*k) (by omega))
   have hd:JP xs k=x+4294967296*y:=by rw[hxe,hye];rfl
   obtain⟨d,hde⟩:∃ d,d=JP xs k:=⟨_,rfl⟩
   have h1i:2*(k:Int)<(la:Int):=by omega
   by_cases h2:2*k+1<la
   ·have cy0:wr.cell? ⟨ba,oa+(2*k+1),none⟩=some (.int .u64 (y:Int)):=by rw[hye];exact(hnx.cell (by exact hA.lt (by omega))).trans (hA.cell (2*k+1) (by omega))
    have h2i:2*(k:Int)+1<(la:Int):=by omega
    have ed:(x:Int)+(y:Int)*4294967296=(d:Int):=by rw[hde,hd];omega
    have HD:=hide hde
    clear hxe hye hd hde
    go_wp2_with (at_builtin;refine wpList_append_own _ rfl (.tmp 29) (.tmp 31) 29 rfl w.heap.size 41 i0 (.int .u64 0) 1 8 Tryz.underlying29 hi hz0 hz1 hz2 rfl (by omega) (.slice gw k cw) k _ rfl (hown.alloc _) ⟨wr.heap.size,0,none⟩ 1 1 [.int .u64 (d:Int)] rfl rfl (by exact aZ wr [.int .u64 (d:Int)] 41) (by intro u hu;simp at hu;subst hu;rfl) (by unfold maxLen;omega) (by omega) (by simp;omega) ?_;intro v1 w1 hown1 hgrow1 hnil1)
    have ho2:=rM hown1
    have hb2:=fD (hnx.alloc hsz _) (hown.alloc _) hgrow1 (by simp;omega)
    obtain⟨g1,b1,c1,rfl,_,_,_⟩:=fp ho2
    clear hown1 hgrow1 hnil1
    go_wp2
    go_roundw
    case rel=>exact⟨k+1,g1,c1,by omega,by first|rfl|exact congrArg (Value.int .i64) (by omega)|go_num,rfl,by rw[xR, <-ae HD];exact ho2,hb2⟩
    case measure=>simp[intOf];omega
   ·have hy0:y=0:=by rw[hye];exact dU (by omega)
    have h2i:¬2*(k:Int)+1<(la:Int):=by omega
    obtain rfl:d=x:=by rw[hde,hd,hy0];omega
    have HD:=hide hde
    clear hxe hye hd hde hy0
    go_wp2_with (at_builtin;refine wpList_append_own _ rfl (.tmp 29) (.tmp 31) 29 rfl w.heap.size 41 i0 (.int .u64 0) 1 8 Tryz.underlying29 hi hz0 hz1 hz2 rfl (by omega) (.slice gw k cw) k _ rfl (hown.alloc _) ⟨wr.heap.size,0,none⟩ 1 1 [.int .u64 (d:Int)] rfl rfl (by exact aZ wr [.int .u64 (d:Int)] 41) (by intro u hu;simp at hu;subst hu;rfl) (by unfold maxLen;omega) (by omega) (by simp;omega) ?_;intro v1 w1 hown1 hgrow1 hnil1)
    have ho2:=rM hown1
    have hb2:=fD (hnx.alloc hsz _) (hown.alloc _) hgrow1 (by simp;omega)
    obtain⟨g1,b1,c1,rfl,_,_,_⟩:=fp ho2
    clear hown1 hgrow1 hnil1
    go_wp2
    go_roundw
    case rel=>exact⟨k+1,g1,c1,by omega,by first|rfl|exact congrArg (Value.int .i64) (by omega)|go_num,rfl,by rw[xR, <-ae HD];exact ho2,hb2⟩
    case measure=>simp[intOf];omega
  ·have h1i:¬2*(k:Int)<(la:Int):=by omega
   obtain⟨g1,b1,c1,he,hl1,hrep,hb1⟩:=fp hown
   cases he
   have hv:af (xR xs k)=val xs:=by rw[AZ,dM _ _ (by omega)]
   have hd:=AY cx.1 k
   by_cases h0:k=0
   ·subst h0
    have hc:cn (xR xs 0):=iI
    go_wp2
    refine wp_loop_rounds 1 ?_
    rw[rounds_succ]
    go_wp2
    go_ret
    exact⟨gw,b1,cw,xR xs 0,by first|rfl|exact aQ rfl,hrep,hc,hv,hnx,fun h=>absurd h (by simp[xR])⟩
   ·obtain⟨j,rfl⟩:∃ j,k=j+1:=⟨k-1,by omega⟩
    have htop:=MO (k:=j) cx (by omega) (by omega)
    have hc:cn (xR xs (j+1)):=⟨hd,fun _=>by rw[eZ,Nat.add_sub_cancel,xT];exact htop⟩
    obtain rfl:=hrep.head (by omega)
    obtain⟨t,hte⟩:∃ t,t=JP xs j:=⟨_,rfl⟩
    have ct:wr.cell? ⟨b1,j,none⟩=some (.int .u64 (t:Int)):=by
     have:=hrep.cell j (by omega)
     rw[Nat.zero_add,xT, <-hte]at this
     exact this
    have htz:((t:Int)==0)=false:=by rw[beq_eq_false_iff_ne];omega
    have HC:=hide hc
    have HV:=hide hv
    clear hte htop hc hv hd hown
    go_wp2
    refine wp_loop_rounds 1 ?_
    rw[rounds_succ]
    go_wp2
    go_ret
    exact⟨_,b1,cw,xR xs (j+1),by rw[eZ];exact aQ rfl,hrep,ae HC,ae HV,hnx,fun _=>hb1 (by omega)⟩
set_option maxRecDepth 100000 in
set_option maxHeartbeats 1600000 in
theorem IY(w:World)(u:Value)(gb:Option Addr)(bb ob cb lb m L:Nat)(ys:List Nat)(hy:ys.length=lb)(hL:L<=1073741824)(hm:m<4294967296^L)(hu:aY w u m)(hB:Rep w gb bb ob cb ys)(cY:cn ys)(hv:af ys=m):
  Calls Tryz.prog 14 #[u,.slice gb lb cb] w fun e w'=>e=.returned (.bool true)/\Below w.heap.size w w':=by
 obtain⟨ga,ba,oa,ca,xs,rfl,hA,cA,hva⟩:=hu
 have la:=fX cA (L:=L) (by rw[hva];exact hm)
 have hlb:lb<=1073741824:=by
  have h1:=dE cY (L:=L) (by rw[hv];exact Nat.lt_of_lt_of_le hm (Nat.pow_le_pow_left (by omega) L))
  omega
 have CT:=hide (Jq w ga ba oa ca _ xs rfl (by omega) hA cA)
 rw[hva]at CT
 clear hva cA hA hm
 go_enter Tryz.func14,Tryz.ntmps14
 go_wp2_with fail
 refine(ae CT).mono ?_
 rintro e w1 ⟨g1,b1,c1,ws,rfl,r1,k1,v1,hb1,_⟩
 obtain rfl:ws=ys:=jQ k1 cY (by rw[v1,hv])
 have rB:=hB.next hb1
 rw[hy]
 have q1:((lb:Int)!=(lb:Int))=false:=by simp
 clear CT k1 v1 cY hv
 go_wp2
 go_loopw [6] (fun i wr=>∃ k:Nat,k<=lb/\i=.int .i64 (k:Int)/\Below w1.heap.size w1 wr) (fun i _=>lb-(intOf i).toNat)
 case atStart=>exact⟨0,Nat.zero_le _,rfl,Below.refl _ _⟩
 case round=>
  obtain⟨k,hk,rfl,hnx⟩:=hrel
  by_cases h1:k<lb
  ·obtain rfl:=r1.head (by omega)
   obtain rfl:=rB.head (by omega)
   obtain⟨x,hx⟩:∃ x:Nat,x=ws.getD k 0:=⟨_,rfl⟩
   have c1:wr.cell? ⟨b1,k,none⟩=some (.int .u64 (x:Int)):=by
    have:=(hnx.cell (by exact r1.lt (by omega))).trans (r1.cell k (by omega))
    rw[Nat.zero_add, <-hx]at this
    exact this
   have c2:wr.cell? ⟨bb,ob+k,none⟩=some (.int .u64 (x:Int)):=by
    rw[hx];exact(hnx.cell (by exact rB.lt (by omega))).trans (rB.cell k (by omega))
   have s2:((x:Int)!=(x:Int))=false:=by simp
   clear hx
   go_wp2
   go_quiet (fail)
   go_wp2
   exact⟨⟨k+1,by omega,by go_num,below_drewN hnx _⟩,by simp[intOf];omega⟩
  ·go_wp2
   go_ret
   exact⟨rfl,ag hb1 hnx⟩
theorem mz(w:World)(u v:Value)(B m p:Nat)(hp:p<=268435456)(hm:m<18446744073709551616^p)(hu:aY w u m)(hv:ah B w v m):
  Calls Tryz.prog 14 #[u,v] w fun e w'=>e=.returned (.bool true)/\Below w.heap.size w w':=by
 obtain⟨ga,b,cap,xs,rfl,hr,hc,hw,_⟩:=hv.rep
 exact IY w u ga b 0 cap _ m (2*p) xs rfl (by omega) (by rw[<-lF];exact hm) hu hr hc hw
end Go.Proofs.YtgcnhfgpflncaaaGreatDoor
/- The reference's Zero,and To with how long it is. -/
namespace Go.Proofs.YtgcnhfgpflncaaaGreatDoor
open Go.RowKit
set_option maxHeartbeats 800000 in
theorem rQ(w:World)(v:Value)(n:Nat)(b:Bool)(hb:b=decide (n=0))(h:aY w v n):
  Calls Tryz.prog 20 #[v] w fun e w'=>e=.returned (.bool b)/\w'=w:=by
 obtain⟨ga,k,o,cap,xs,rfl,hr,hc,hv⟩:=h
 have hx:(xs.length=0)=(n=0):=by
  rw[<-hv]
  apply propext
  constructor
  ·intro h
   obtain rfl:xs=[]:=List.length_eq_zero_iff.1 h
   rfl
  ·intro h
   obtain rfl:xs=[]:=yn hc sP h
   rfl
 have e:((xs.length:Int)==0)=b:=by
  rw[hb]
  by_cases h0:n=0
  ·have:xs.length=0:=by rw[hx];exact h0
   simp[h0,this]
  ·have:¬xs.length=0:=by rw[hx];exact h0
   simp[h0]
   intro h1
   exact this (by rw[h1];rfl)
 generalize xs.length=l at *
 clear hx hr hc hv hb
 go_enter Tryz.func20,Tryz.ntmps20
 go_wp2
 go_ret
 exact⟨rfl,rfl⟩
theorem OX(w:World)(v:Value)(n p:Nat)(hp:p<=100000)(hn:n<18446744073709551616^p)(h:aY w v n):
  Calls Tryz.prog 25 #[v] w fun e w'=>∃ ga b cap ws l,e=.returned (.slice ga l cap)/\ws.length=l/\l<=p/\Rep w' ga b 0 cap ws/\ao ws/\af ws=n/\Below w.heap.size w w':=by
 obtain⟨ga,b,o,cap,xs,rfl,hR,hc,hv⟩:=h
 have hn2:=hn
 rw[lF]at hn2
 have hl:=fX hc (L:=2*p) (by rw[hv];exact hn2)
 refine(Jq w ga b o cap _ xs rfl (by omega) hR hc).mono ?_
 rintro e w' ⟨g1,b1,c1,ws,rfl,r1,k1,v1,hb,_⟩
 have hlw:=dE k1 (L:=p) (by rw[v1,hv];exact hn)
 exact⟨g1,b1,c1,ws,_,rfl,rfl,hlw,r1,k1.1,by rw[v1,hv],hb⟩
end Go.Proofs.YtgcnhfgpflncaaaGreatDoor
/- Rows that are made,and filled place by place. -/
namespace Go.Proofs.YtgcnhfgpflncaaaGreatDoor
open Go.RowKit
theorem jO(zs:List Nat)(k v i:Nat)(hk:k<zs.length):(zs.set k v).getD i 0=if i=k then v else zs.getD i 0:=by
 by_cases e:i=k
 ·subst e;simp[hk]
 ·rw[if_neg e];simp[List.getElem?_set_ne (Ne.symm e)]
theorem ot{xs ys:List Nat}(hl:xs.length=ys.length)(h:∀ k,k<ys.length->xs.getD k 0=ys.getD k 0):xs=ys:=by
 apply List.ext_getElem hl
 intro k h1 h2
 have:=h k h2
 simpa [h1,h2]using this
theorem mh(f:Nat->Nat){n i:Nat}(h:i<n):((List.range n).map f).getD i 0=f i:=by simp[h]
theorem qW(w:World)(n:Nat):aB (w.alloc (.cells (aF n).toArray 41)) w.heap.size (List.replicate n 0):=heap_alloc_new w _
theorem ou(n cp:Nat)(z:Int)(hz:z=(cp:Int))(h:cp=n)(hb:cp<=2199023255552):∀ w,(Instr.makeSlice 24 (.int .i64 z) (.int .i64 z)).run Tryz.prog w=.ok (.slice (some ⟨w.heap.size,0,none⟩) n n) (w.alloc (.cells (aF n).toArray 41)):=fun w=>by
 obtain⟨i0,hi,hz0,hz1,hz2⟩:=info_parts Tryz.infoU
 subst hz h
 have h:=run_make (P:=Tryz.prog) w 24 41 i0 (.int .u64 0) Tryz.underlying24 hi hz0 .i64 .i64 (cp:Int) (cp:Int) (by omega) (by omega) (by rw[hz2];omega) (by omega)
 rw[h]
 have e1:((cp:Int)).toNat=cp:=by omega
 rw[e1,hz1,Nat.mul_one,iY]
def eB(f:Nat->Nat)(z0 zs:List Nat)(k:Nat):Prop:=zs.length=z0.length/\∀ i,i<z0.length->zs.getD i 0=if i<k then f i else z0.getD i 0
theorem fF(f:Nat->Nat)(z0:List Nat):eB f z0 z0 0:=⟨rfl,fun i _=>by rw[if_neg (by omega)]⟩
theorem kn{f:Nat->Nat}{z0 zs:List Nat}{k:Nat}(h:eB f z0 zs k)(hk:k<z0.length):zs.getD k 0=z0.getD k 0:=by rw[h.2 k hk,if_neg (by omega)]
theorem gV{f:Nat->Nat}{z0 zs:List Nat}{k:Nat}(h:eB f z0 zs k)(hk:k<z0.length):eB f z0 (zs.set k (f k)) (k+1):=by
 refine⟨by simpa using h.1,fun i hi=>?_⟩
 rw[jO _ _ _ _ (by rw[h.1];exact hk)]
 by_cases e:i=k
 ·rw[if_pos e,if_pos (by omega),e]
 ·rw[if_neg e,h.2 i hi]
  by_cases c:i<k
  ·rw[if_pos c,if_pos (by omega)]
  ·rw[if_neg c,if_neg (by omega)]
theorem iZ{f:Nat->Nat}{z0 zs:List Nat}(h:eB f z0 zs z0.length):zs=(List.range z0.length).map f:=by
 refine ot (by rw[h.1];simp) fun k hk=>?_
 have hk2:k<z0.length:=by simpa using hk
 rw[mh f hk2,h.2 k hk2,if_pos hk2]
end Go.Proofs.YtgcnhfgpflncaaaGreatDoor
/- A row that is turned about,pair by pair. -/
namespace Go.Proofs.YtgcnhfgpflncaaaGreatDoor
def gY(z0 zs:List Nat)(o n i:Nat):Prop:=
 zs.length=z0.length/\∀ k,k<z0.length->zs.getD k 0=if (o<=k/\k<o+i)\/(o+n-i<=k/\k<o+n) then z0.getD (2*o+n-1-k) 0 else z0.getD k 0
theorem tN(z0:List Nat)(o n:Nat):gY z0 z0 o n 0:=⟨rfl,fun k _=>by rw[if_neg (by omega)]⟩
theorem zm{z0 zs:List Nat}{o n i:Nat}(h:gY z0 zs o n i)(hi:2*i+1<n)(hl:o+n<=z0.length):zs.getD (o+i) 0=z0.getD (o+i) 0:=by
 rw[h.2 _ (by omega),if_neg (by omega)]
theorem wN{z0 zs:List Nat}{o n i:Nat}(h:gY z0 zs o n i)(hi:2*i+1<n)(hl:o+n<=z0.length):zs.getD (o+(n-1-i)) 0=z0.getD (o+(n-1-i)) 0:=by
 rw[h.2 _ (by omega),if_neg (by omega)]
theorem wO{z0 zs:List Nat}{o n i:Nat}(h:gY z0 zs o n i)(hi:2*i+1<n)(hl:o+n<=z0.length):gY z0 ((zs.set (o+i) (z0.getD (o+(n-1-i)) 0)).set (o+(n-1-i)) (z0.getD (o+i) 0)) o n (i+1):=by
 refine⟨by simpa using h.1,fun k hk=>?_⟩
 have h0:=h.2 k hk
 have hz:=h.1
 rw[jO _ _ _ _ (by simp;omega),jO _ _ _ _ (by omega)]
 by_cases e1:k=o+(n-1-i)
 ·rw[if_pos e1,if_pos (by omega)]
  congr 1
  omega
 ·rw[if_neg e1]
  by_cases e2:k=o+i
  ·rw[if_pos e2,if_pos (by omega)]
   congr 1
   omega
  ·rw[if_neg e2,h0]
   by_cases c:(o<=k/\k<o+i)\/(o+n-i<=k/\k<o+n)
   ·rw[if_pos c,if_pos (by omega)]
   ·rw[if_neg c,if_neg (by omega)]
theorem zk{z0 zs:List Nat}{o n i:Nat}(h:gY z0 zs o n i)(hi:n<=2*i+1)(hi2:i<=n):gY z0 zs o n n:=by
 refine⟨h.1,fun k hk=>?_⟩
 rw[h.2 k hk]
 by_cases c:(o<=k/\k<o+i)\/(o+n-i<=k/\k<o+n)
 ·rw[if_pos c,if_pos (by omega)]
 ·rw[if_neg c]
  by_cases c2:(o<=k/\k<o+n)\/(o+n-n<=k/\k<o+n)
  ·rw[if_pos c2]
   congr 1
   omega
  ·rw[if_neg c2]
end Go.Proofs.YtgcnhfgpflncaaaGreatDoor
/- A row of noughts,made;transforms by their definition,in residues. -/
namespace Go.Proofs.YtgcnhfgpflncaaaGreatDoor
open Go.RowKit
theorem FI(p a b:Nat):Cg p (ad p a b:Int) ((a:Int)+(b:Int)):=by
 unfold ad
 exact(Cg.mod p _).trans (Cg.of_eq (Int.natCast_add a b))
theorem vP(p a b:Nat):Cg p (ml p a b:Int) ((a:Int)*(b:Int)):=by
 unfold ml
 exact(Cg.mod p _).trans (Cg.of_eq (Int.natCast_mul a b))
theorem OE(p a n:Nat):Cg p (pw p a n:Int) ((a:Int)^n):=by
 unfold pw
 exact(Cg.mod p _).trans (Cg.of_eq (Int.natCast_pow a n))
def part(p w:Nat)(xs:List Nat)(k:Nat):Nat->Nat
 |0=>0
 |m+1=>ad p (part p w xs k m) (ml p (xs.getD m 0) (pw p w (m*k)))
def aT(xs:List Nat)(j:Nat):Int:=((xs.getD j 0:Nat):Int)
theorem Lr(p w:Nat)(xs:List Nat)(k m:Nat):Cg p (part p w xs k m:Int) (gK (w:Int) m (aT xs) k):=by
 induction m with
 |zero=>exact Cg.refl _ _
 |succ m ih=>exact(FI p _ _).trans (ih.add ((vP p _ _).trans ((Cg.refl p _).mul (OE p w _))))
theorem Ls{p:Nat}(hp:0<p)(w:Nat)(xs:List Nat)(k m:Nat):part p w xs k m<p:=by
 cases m with
 |zero=>exact hp
 |succ m=>exact Nat.mod_lt _ hp
def jB(p w:Nat)(xs:List Nat):List Nat:=(List.range xs.length).map fun k=>part p w xs k xs.length
theorem bJ(p w:Nat)(xs:List Nat):(jB p w xs).length=xs.length:=by simp[jB]
theorem GA(p w:Nat)(xs:List Nat){k:Nat}(h:k<xs.length):(jB p w xs).getD k 0=part p w xs k xs.length:=by simp[jB,h]
end Go.Proofs.YtgcnhfgpflncaaaGreatDoor
/- Numbers of three words,the lowest first;rows of them in memory. -/
namespace Go.Proofs.YtgcnhfgpflncaaaGreatDoor
open Go.RowKit
def v3(a b c:Nat):Nat:=a+18446744073709551616*(b+18446744073709551616*c)
def g9(w:World)(g q:Nat)(T:Nat->Nat):Prop:=
 ∀ k,k<q->∃ t0 t1 t2:Nat,t0<18446744073709551616/\t1<18446744073709551616/\t2<18446744073709551616/\v3 t0 t1 t2=T k/\w.cell? ⟨g,k*3,none⟩=some (.int .u64 (t0:Int))/\w.cell? ⟨g,k*3+1,none⟩=some (.int .u64 (t1:Int))/\w.cell? ⟨g,k*3+2,none⟩=some (.int .u64 (t2:Int))
theorem g9.next{w w':World}{g q:Nat}{T:Nat->Nat}(h:g9 w g q T)(b:Below w.heap.size w w'):g9 w' g q T:=fun k hk=>by
 obtain⟨t0,t1,t2,a,a1,a2,e,c0,c1,c2⟩:=h k hk
 have hg:=World.block_lt_of_cell? _ _ c0
 exact⟨t0,t1,t2,a,a1,a2,e,(b.cell (p:=⟨g,k*3,none⟩) hg).trans c0,(b.cell (p:=⟨g,k*3+1,none⟩) hg).trans c1,(b.cell (p:=⟨g,k*3+2,none⟩) hg).trans c2⟩
theorem O4(a b c:Nat):af [a,b,c]=v3 a b c:=by simp[af,v3]
end Go.Proofs.YtgcnhfgpflncaaaGreatDoor
