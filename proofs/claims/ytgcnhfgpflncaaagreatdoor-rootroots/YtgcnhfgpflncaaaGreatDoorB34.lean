/- Package prime: Mod, Root; the examples of the document. -/
import Derived.Test.YtgcnhfgpflncaaaGreatDoorB30
import Derived.Test.YtgcnhfgpflncaaaGreatDoorB31
import Derived.Test.YtgcnhfgpflncaaaGreatDoorB1
namespace Go.Proofs.YtgcnhfgpflncaaaGreatDoor
open Go.RowKit
set_option maxHeartbeats 800000 in
theorem KZ(p:Nat)(w:World)(hM:Fv p)(hP:isP p=true)(hT:TB w):
  Calls Tryz.prog 206 #[.int .u64 (p:Int)] w fun e w'=>∃ g,e=.returned (.tuple #[.pointer (some ⟨g,0,none⟩),.int .i64 0])/\MW w' g p/\w.heap.size<=g/\Below w.heap.size w w':=by
 obtain⟨ho,hl,hh⟩:=hM
 have CN:=hide (fY p w ho hl hh)
 have CI:Hid (∀ w',Below w.heap.size w w'->Calls Tryz.prog 217 #[.int .u64 (p:Int)] w' fun e w''=>e=.returned (.bool true)/\Below w'.heap.size w' w''):=fun w' b=>by
  have:=Ol p w' (by omega) (hT.next b)
  rw[hP]at this
  exact this
 clear ho hl hh hP hT
 go_enter Tryz.func206,Tryz.ntmps206
 go_wp2_with fail
 refine(ae CN).mono ?_
 rintro e w1 ⟨g,rfl,h,hg,b⟩
 have hM:=hide h
 have hG:=hide hg
 clear h CN hg
 go_wp2_with fail
 refine(ae CI _ b).mono ?_
 rintro e w2 ⟨rfl,b2⟩
 go_wp2
 go_ret2
 exact⟨g,rfl,(ae hM).next b2,ae hG,ag b b2⟩
set_option maxHeartbeats 800000 in
theorem qG{w:World}{g p X:Nat}(h:MW w g p)(hX:qS p X):
  Calls Tryz.prog 209 #[.pointer (some ⟨g,0,none⟩)] w fun e w'=>e=.returned (.int .u64 (X:Int))/\w'=w:=by
 have hl:=h.low
 have hp:=h.high
 have CP:=hide (jG h)
 have CW:=hide (fun x=>pow_mod h x ((p-1)/2) (by omega))
 have hX2:=hX.two
 have hXl:=hX.lt
 have H1:=hide hX.hit
 have H2:=hide hX.first
 obtain⟨N,hN⟩:∃ N,N=p-1:=⟨_,rfl⟩
 obtain⟨K,hK⟩:∃ K,K=N/2:=⟨_,rfl⟩
 rw[<-hN, <-hK]at CW H1 H2
 have eN:(p:Int)-1=(N:Int):=by omega
 have eNw:IntKind.u64.wrap (N:Int)=(N:Int):=by rw[IntKind.wrap_u64];omega
 have eK:(N:Int)/2=(K:Int):=by omega
 have eK2:(N:Int).tdiv 2=(K:Int):=by rw[hK];rfl
 have eKw:IntKind.u64.wrap (K:Int)=(K:Int):=by rw[IntKind.wrap_u64];omega
 clear h hX hN hK
 generalize pw p=Q at *
 go_enter Tryz.func209,Tryz.ntmps209
 go_wp2_with fail
 refine(ae CP).mono ?_
 rintro e w1 ⟨rfl,rfl⟩
 go_wp2
 go_loopw [4] (fun xv wr=>∃ x:Nat,2<=x/\x<=X/\xv=.int .u64 (x:Int)/\Hid (wr=w1)) (fun xv _=>X-(intOf xv).toNat)
 case atStart=>exact⟨2,by omega,by omega,rfl,rfl⟩
 case round=>
  obtain⟨x,hx2,hxX,rfl,hw⟩:=hrel
  obtain rfl:=hw.out.symm
  by_cases hx:x=X
  ·subst hx
   have C:=ae CW x
   rw[ae H1]at C
   have C:=hide C
   go_wp2_with fail
   refine(ae C).mono ?_
   rintro e w2 ⟨rfl,rfl⟩
   go_wp2
   go_ret
   exact⟨ax rfl,rfl⟩
  ·have C:=ae CW x
   have hne:=ae H2 x hx2 (by omega)
   generalize Q x K=r at *
   have C:=hide C
   have hni:((r:Int)!=(N:Int))=true:=by rw[bne_iff_ne];omega
   have hmm:Hid (X-(x+1)<X-x):=by show _<_;omega
   clear hne
   go_wp2_with fail
   refine(ae C).mono ?_
   rintro e w2 ⟨rfl,rfl⟩
   go_wp2
   go_roundw
   case rel=>exact⟨x+1,by omega,by omega,by go_num,trivial⟩
   case measure=>simp[intOf];have:=ae hmm;omega
set_option maxHeartbeats 1600000 in
theorem IJ(p X l:Nat)(w:World)(hM:Fv p)(hP:isP p=true)(hX:qS p X)(hl:l<=20)(hd:l<=tw p)(hT:TB w):
  Calls Tryz.prog 187 #[.int .u64 (p:Int),.int .i64 (l:Int)] w fun e w'=>e=.returned (.tuple #[.int .u64 (pw p X ((p-1)/2^l):Int),.int .i64 0])/\Below w.heap.size w w':=by
 have CM:=hide (KZ p w hM hP hT)
 obtain⟨_,h3,hh⟩:=hM
 have hT64:=(uj (n:=p) (by omega) (by omega)).1
 have CT:Hid (∀ w',Below w.heap.size w w'->Calls Tryz.prog 207 #[.int .u64 ((p-1:Nat):Int)] w' fun e w''=>e=.returned (.int .i64 (tw p:Int))/\w''=w'):=fun w' b=>Jw (p-1) w' (by omega) (by omega) (hT.next b)
 have CN:=hide (fun w' g (h:MW w' g p)=>qG h hX)
 have hE:(p-1)/2^l<18446744073709551616:=Nat.lt_of_le_of_lt (Nat.div_le_self _ _) (by omega)
 have CW:=hide (fun w' g (h:MW w' g p)=>pow_mod h X ((p-1)/2^l) hE)
 have es:=fC (p-1) l
 generalize pw p X ((p-1)/2^l)=Z at *
 generalize (p-1)/2^l=E at *
 obtain⟨N,hN⟩:∃ N,N=p-1:=⟨_,rfl⟩
 rw[<-hN]at es CT
 have eN:(p:Int)-1=(N:Int):=by omega
 have eNw:IntKind.u64.wrap (N:Int)=(N:Int):=by rw[IntKind.wrap_u64];omega
 generalize tw p=t at *
 have hlt:¬(t:Int)<(l:Int):=by omega
 have hl0:¬(l:Int)<0:=by omega
 have hl20:¬(20:Int)<(l:Int):=by omega
 clear hT hX hP hN
 go_enter Tryz.func187,Tryz.ntmps187
 go_wp2_with fail
 refine(ae CM).mono ?_
 rintro e w1 ⟨g,rfl,h,hg,b⟩
 have hM:=hide h
 clear h CM hg
 go_wp2_with fail
 refine(ae CT _ b).mono ?_
 rintro e w2 ⟨rfl,rfl⟩
 clear CT
 have inst:=bD w2
 have CN:Hid (∀ u:cH w2,Calls Tryz.prog 209 #[.pointer (some ⟨g,0,none⟩)] u.val fun e w'=>e=.returned (.int .u64 (X:Int))/\w'=u.val):=fun u=>ae CN _ g ((ae hM).next u.old)
 have CW:Hid (∀ u:cH w2,Calls Tryz.prog 208 #[.pointer (some ⟨g,0,none⟩),.int .u64 (X:Int),.int .u64 (E:Int)] u.val fun e w'=>e=.returned (.int .u64 (Z:Int))/\w'=u.val):=fun u=>ae CW _ g ((ae hM).next u.old)
 go_wp2_with fail
 refine bn (by kernel_rfl) (by kernel_rfl) ?_
 repeat (go_big_quiet_step (first|(go_at_call 209;exact Calls.old_same (ae CN _))|(go_at_call 208;exact Calls.old_same (ae CW _))))
 refine wpQuiet_nil ?_
 intro w5 hw5
 obtain⟨u,rfl⟩:=hw5
 go_wp2
 go_ret2
 exact⟨rfl,ag b u.old⟩
end Go.Proofs.YtgcnhfgpflncaaaGreatDoor
/- Roots of order 2 to the l:of the code and of the reference;plain facts about them. -/
namespace Go.Proofs.YtgcnhfgpflncaaaGreatDoor
open Go.RowKit
structure Nz(p X:Nat):Prop where
 odd:Fv p
 isP:isP p=true
 nonSq:qS p X
theorem Iy(p a n:Nat):Cg p (pw p a n:Int) ((a:Int)^n):=by
 unfold pw
 refine(Cg.mod p _).trans (Cg.of_eq ?_)
 exact Int.natCast_pow a n
theorem Ba{p l:Nat}(h3:3<=p)(hp:p<18446744073709551616)(hd:l<=tw p):(p-1)/2^l*2^l=p-1:=by
 obtain⟨_,_,h2⟩:=uj (n:=p) (by omega) hp
 apply Nat.div_mul_cancel
 rw[<-h2]
 exact Nat.dvd_trans (Nat.pow_dvd_pow 2 hd) (Nat.dvd_mul_left _ _)
theorem Nz.rt{p X l:Nat}(h:Nz p X)(hd:l<=tw p):Rt p (pw p X ((p-1)/2^l):Int) l:=by
 obtain⟨ho,h3,hh⟩:=h.odd
 have hm1:Cg p ((p-1:Nat):Int) (-1):=⟨1,by omega⟩
 have hit:Cg p ((X:Int)^((p-1)/2)) (-1):=by
  have:=Iy p X ((p-1)/2)
  rw[h.nonSq.hit]at this
  exact this.symm.trans hm1
 cases l with
 |zero=>
  show Cg p _ 1
  refine(Iy p X _).trans ?_
  rw[Nat.pow_zero,Nat.div_one]
  have h2:p-1=(p-1)/2*2:=by omega
  rw[h2,Int.pow_mul]
  have:=hit.pow 2
  rwa [show(-1:Int)^2=1 from rfl]at this
 |succ l=>
  show Cg p _ (-1)
  refine((Iy p X _).pow _).trans ?_
  rw[<-Int.pow_mul]
  have h2:=Ba h3 (by omega) hd
  have e:(p-1)/2^(l+1)*2^l=(p-1)/2:=by
   generalize (p-1)/2^(l+1)=q at *
   rw[Nat.pow_succ, <-Nat.mul_assoc]at h2
   generalize q*2^l=r at *
   omega
  rw[e]
  exact hit
end Go.Proofs.YtgcnhfgpflncaaaGreatDoor
/- The twelve primes over which transforms are tried:each passes,and its least number that is no square. Nothing of any program here. -/
namespace Go.Proofs.YtgcnhfgpflncaaaGreatDoor
theorem Oj:isP 180143985094819841=true:=by
 refine oq (by decide) (by decide+kernel) fun j hj=>?_
 have e:od 180143985094819841=5:=by decide+kernel
 have e2:tw 180143985094819841=55:=by decide+kernel
 have hb:=lO j hj
 unfold pass
 rw[e,e2,mg (f:=3) (by decide) (by omega) (by decide)]
 revert j
 decide+kernel
theorem Im:qS 180143985094819841 3:=⟨by decide,by decide,by rw[mg (f:=57) (by decide) (by decide) (by decide)];decide+kernel,fun y h1 h2=>by
 rw[mg (f:=57) (by decide) (by omega) (by decide)]
 revert h1
 revert h2
 revert y
 decide+kernel⟩
theorem Og:Nz 180143985094819841 3:=⟨⟨by decide,by decide,by decide⟩,Oj,Im⟩
theorem KO:isP 1945555039024054273=true:=by
 refine oq (by decide) (by decide+kernel) fun j hj=>?_
 have e:od 1945555039024054273=27:=by decide+kernel
 have e2:tw 1945555039024054273=56:=by decide+kernel
 have hb:=lO j hj
 unfold pass
 rw[e,e2,mg (f:=5) (by decide) (by omega) (by decide)]
 revert j
 decide+kernel
theorem DG:qS 1945555039024054273 5:=⟨by decide,by decide,by rw[mg (f:=60) (by decide) (by decide) (by decide)];decide+kernel,fun y h1 h2=>by
 rw[mg (f:=60) (by decide) (by omega) (by decide)]
 revert h1
 revert h2
 revert y
 decide+kernel⟩
theorem Ky:Nz 1945555039024054273 5:=⟨⟨by decide,by decide,by decide⟩,KO,DG⟩
theorem KP:isP 4179340454199820289=true:=by
 refine oq (by decide) (by decide+kernel) fun j hj=>?_
 have e:od 4179340454199820289=29:=by decide+kernel
 have e2:tw 4179340454199820289=57:=by decide+kernel
 have hb:=lO j hj
 unfold pass
 rw[e,e2,mg (f:=5) (by decide) (by omega) (by decide)]
 revert j
 decide+kernel
theorem DI:qS 4179340454199820289 3:=⟨by decide,by decide,by rw[mg (f:=61) (by decide) (by decide) (by decide)];decide+kernel,fun y h1 h2=>by
 rw[mg (f:=61) (by decide) (by omega) (by decide)]
 revert h1
 revert h2
 revert y
 decide+kernel⟩
theorem Kz:Nz 4179340454199820289 3:=⟨⟨by decide,by decide,by decide⟩,KP,DI⟩
end Go.Proofs.YtgcnhfgpflncaaaGreatDoor
