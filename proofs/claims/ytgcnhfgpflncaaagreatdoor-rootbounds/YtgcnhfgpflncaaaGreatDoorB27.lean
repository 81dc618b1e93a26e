/- Shl, Shr and Low of the reference, in general. -/
import Derived.Test.YtgcnhfgpflncaaaGreatDoorB16
import Derived.Test.YtgcnhfgpflncaaaGreatDoorB3
import Derived.Test.YtgcnhfgpflncaaaGreatDoorB14
import Derived.Test.YtgcnhfgpflncaaaGreatDoorB1
import Derived.Test.YtgcnhfgpflncaaaGreatDoorB23
import Derived.Test.YtgcnhfgpflncaaaGreatDoorB5
import Derived.Test.YtgcnhfgpflncaaaGreatDoorB25
namespace Go.Proofs.YtgcnhfgpflncaaaGreatDoor
open Go.RowKit
theorem LW(w:World)(u:Value)(m n L:Nat)(hL:L<=1073741824)(hm:m<4294967296^L)(hn:n<=17179869184)(hu:aY w u m):
  Calls Tryz.prog 47 #[u,.int .i64 (n:Int)] w fun e w'=>∃ r,e=.returned r/\aY w' r (m*2^n)/\Below w.heap.size w w':=by
 obtain⟨ga,b,o,cap,xs,rfl,hr,hc,rfl⟩:=hu
 have hl:=fX hc hm
 by_cases h0:xs.length=0
 ·obtain rfl:xs=[]:=List.length_eq_zero_iff.1 h0
  refine(I4 w ga cap (n:Int)).mono ?_
  rintro e w' ⟨rfl,rfl⟩
  exact⟨_,rfl,by rw[show val []=0 from rfl,Nat.zero_mul];exact G7 _,Below.refl _ _⟩
 ·exact LY w ga b o cap _ n _ _ xs rfl (by omega) (by omega) rfl rfl hn hr hc.1
end Go.Proofs.YtgcnhfgpflncaaaGreatDoor
/- ConvCarries:what the law's walk comes to,once the code's Carry is what the document asks. -/
namespace Go.Proofs.YtgcnhfgpflncaaaGreatDoor
open Go.RowKit
def hv(T:Nat->Nat)(n:Nat):Nat->Nat
 |0=>0
 |c+1=>hv T n c*2^64+T (n-1-c)
end Go.Proofs.YtgcnhfgpflncaaaGreatDoor
/- powAtMost,Root,Sqrt of the reference. -/
namespace Go.Proofs.YtgcnhfgpflncaaaGreatDoor
open Go.RowKit
set_option maxRecDepth 100000 in
set_option maxHeartbeats 3200000 in
theorem qI(w:World)(u v:Value)(t a k L:Nat)(q:Bool)(hk:k<=64)(h0:0<t)(ht:t<4294967296^L)(ha:a<4294967296^L)(hL:L<=100000)(hu:aY w u t)(hv:aY w v a)(hq:q=decide (t^k<=a))(hk0:0<k):
  Calls Tryz.prog 48 #[u,.int .i64 (k:Int),v] w fun e w'=>e=.returned (.bool q)/\Below w.heap.size w w':=by
 have CS:=hide (iw 1 (by omega) (by omega) w)
 have h1L:1<4294967296^L:=by omega
 have ht2:Hid (t<4294967296^L):=ht
 have HPW:Hid (∀ i,(i=0\/t^i<=a)->t^i<4294967296^L):=fun i hi=>by
  rcases hi with rfl|hi
  ·rw[Nat.pow_zero];exact h1L
  ·omega
 have HPX:Hid (∀ i,(i=0\/t^i<=a)->t^(i+1)<4294967296^(2*L)):=fun i hi=>by
  have:=Nat.mul_lt_mul'' (HPW.out i hi) ht
  rwa [<-Nat.pow_add, <-Nat.pow_succ, <-Nat.two_mul]at this
 have HA:Hid (a<4294967296^(2*L)):=Nat.lt_of_lt_of_le ha (Nat.pow_le_pow_right (by omega) (by omega))
 have hki:(k:Int)<=64:=by omega
 have HL:Hid (L<=1073741824):=by show _<=_;omega
 have HL2:Hid (2*L<=1073741824):=by show _<=_;omega
 have HN:Hid (∀ i,i+1<=k->a<t^(i+1)->q=false):=fun i hi h=>by rw[hq];exact decide_eq_false (DU h0 hi h)
 have HY:Hid (t^k<=a->q=true):=fun h=>by rw[hq];exact decide_eq_true h
 generalize 2*L=M at *
 clear hL ht ha h1L hq
 go_enter Tryz.func48,Tryz.ntmps48
 go_wp2_with fail
 refine(ae CS).mono ?_
 rintro e w1 ⟨r0,rfl,n0,b1⟩
 have hu:=hu.next b1
 have hv:=hv.next b1
 clear CS
 go_wp2
 go_loopw [7,8] (fun r i wr=>∃(j:Nat),j<=k/\(j=0\/t^j<=a)/\i=.int .i64 (j:Int)/\aY wr r (t^j)/\aY wr u t/\aY wr v a/\Below w.heap.size w wr)
  (fun _ i _=>k-(intOf i).toNat)
 case atStart=>exact⟨0,Nat.zero_le _,Or.inl rfl,rfl,by rw[Nat.pow_zero];exact n0,hu,hv,b1⟩
 case round=>
  obtain⟨j,hj,hjo,rfl,hN,hu,hv,hnx⟩:=hrel
  by_cases h1:j<k
  ·have HJ:=hide hjo
   clear hjo
   go_wp2_with fail
   refine(mul_any _ _ _ _ _ L (ae HL) (ae HPW j (ae HJ)) (ae ht2) hN hu).mono ?_
   rintro e w2 ⟨r2,rfl,n2,b2⟩
   have hb2:=ag hnx b2
   have hu:=hu.next b2
   have hv:=hv.next b2
   rw[<-Nat.pow_succ]at n2
   clear hnx b2 hN
   go_wp2_with fail
   refine(jY _ _ _ _ _ M (ae HL2) (ae HPX j (ae HJ)) (ae HA) n2 hv).mono ?_
   rintro e w3 ⟨rfl,b3⟩
   have hb3:=ag hb2 b3
   have hu:=hu.next b3
   have hv:=hv.next b3
   have n2:=n2.next b3
   clear hb2 b3
   by_cases hc:a<t^(j+1)
   ·have hq:=ae HN j (by omega) hc
    rw[cJ hc]
    subst hq
    clear HN HY hc
    go_wp2
    go_ret
    exact⟨rfl,hb3⟩
   ·have hcv:¬(0:Int)<aV (t^(j+1)) a:=by unfold aV;split<;>(try split)<;>omega
    have hle:t^(j+1)<=a:=by omega
    generalize aV (t^(j+1)) a=cv at *
    have HLE:=hide hle
    clear hc hle
    go_wp2
    exact⟨⟨j+1,by omega,Or.inr (ae HLE),by go_num,n2,hu,hv,hb3⟩,by simp[intOf];omega⟩
  ·obtain rfl:j=k:=by omega
   have hq:=ae HY (hjo.elim (fun h=>absurd hk0 (by omega)) id)
   subst hq
   go_wp2
   go_ret
   exact⟨rfl,hnx⟩
set_option maxRecDepth 100000 in
set_option maxHeartbeats 3200000 in
theorem nK(w:World)(v:Value)(a k s L:Nat)(hk0:0<k)(hk:k<=64)(ha:a<4294967296^L)(hL:L<=10000)(hv:aY w v a)(hs:bU k a s):
  Calls Tryz.prog 27 #[v,.int .i64 (k:Int)] w fun e w'=>∃ r,e=.returned r/\aY w' r s/\Below w.heap.size w w':=by
 obtain⟨ga,b,o,cap,xs,rfl,hR,hc,hv2⟩:=id hv
 have hl:=fX hc (L:=L) (by rw[hv2];exact ha)
 obtain⟨n,hn⟩:∃ n,n=xs.length:=⟨_,rfl⟩
 have CB:=hide (FU w ga b o cap n xs hn.symm (by omega) hR hc.1)
 rw[hv2]at CB
 rw[<-hn]at hv hl ⊢
 have HS:=hide hs
 have HA:Hid (a<4294967296^(L+2)):=Nat.lt_of_lt_of_le ha (Nat.pow_le_pow_right (by omega) (by omega))
 have HSB:Hid (∀ x,x^k<=a->x<4294967296^(L+1)):=fun x hx=>by
  have h1:x<=a:=by
   rcases Nat.eq_zero_or_pos x with h|h
   ·omega
   ·exact Nat.le_trans (Nat.le_of_eq (Nat.pow_one x).symm) (Nat.le_trans (Nat.pow_le_pow_right h hk0) hx)
  have:(4294967296:Nat)^L<=4294967296^(L+1):=Nat.pow_le_pow_right (by omega) (by omega)
  omega
 clear hs hc hR hv2 hn
 go_enter Tryz.func27,Tryz.ntmps27
 go_wp2_with fail
 refine(ae CB).mono ?_
 rintro e w1 ⟨K,rfl,hK1,hK2,rfl⟩
 clear CB
 obtain⟨Q,hQ⟩:∃ Q,Q=K/k:=⟨_,rfl⟩
 have hQ1:Q<=32*L:=by rw[hQ];exact Nat.le_trans (Nat.div_le_self _ _) (by omega)
 have S0:=hide (IQ hk0 hK2)
 rw[<-hQ]at S0
 have eq:(K:Int).tdiv (k:Int)=(Q:Int):=by rw[Int.tdiv_eq_ediv_of_nonneg (by omega),hQ];rfl
 have eq2:(K:Int)/(k:Int)=(Q:Int):=by rw[hQ];rfl
 have eqw:IntKind.i64.wrap (Q:Int)=(Q:Int):=by rw[IntKind.wrap_i64];omega
 have kz:((k:Int)==0)=false:=by simp only[beq_eq_false_iff_ne];omega
 have HPQ:Hid (∀ i,i<=32*L->2^i<4294967296^(L+1)):=fun i hi=>by
  rw[show(4294967296:Nat)=2^32 from rfl, <-Nat.pow_mul]
  exact Nat.pow_lt_pow_right (by omega) (by omega)
 clear hQ hK1 hK2
 go_wp2
 go_loopw [5,6] (fun r i wr=>∃(q x:Nat),q<=Q+1/\i=.int .i64 ((q:Int)-1)/\Hid (oJ k a q x)/\aY wr r x/\aY wr (.slice ga n cap) a/\Below w1.heap.size w1 wr)
  (fun _ i _=>(intOf i+1).toNat)
 case atStart=>exact⟨Q+1,0,Nat.le_refl _,by go_num,S0,KN _,hv,Below.refl _ _⟩
 case round=>
  obtain⟨q,x,hq,rfl,hAt,hN,hv,hnx⟩:=hrel
  by_cases h1:0<q
  ·obtain⟨i,rfl⟩:∃ i,q=i+1:=⟨q-1,by omega⟩
   have ej:((i+1:Nat):Int)-1=(i:Int):=by omega
   rw[ej]
   clear ej
   have CS:=hide (fun W=>iw 1 (by omega) (by omega) W)
   go_wp2_with fail
   refine(ae CS _).mono ?_
   rintro e w2 ⟨r1,rfl,n1,b⟩
   have hN:=hN.next b
   have hv:=hv.next b
   have hnx:=ag hnx b
   clear b CS
   go_wp2_with fail
   refine(LW _ _ _ i 1 (by omega) (by decide) (by omega) n1).mono ?_
   rintro e w3 ⟨r2,rfl,n2,b⟩
   have hN:=hN.next b
   have hv:=hv.next b
   have hnx:=ag hnx b
   have n2:aY w3 r2 (2^i):=by have:=n2;rw[show(1:Int).toNat=1 from rfl,Nat.one_mul]at this;exact this
   clear b n1
   go_wp2_with fail
   refine(add_any _ _ _ _ _ (L+1) (by omega) (ae HSB x (ae hAt).1) (ae HPQ i (by omega)) hN n2).mono ?_
   rintro e w4 ⟨r3,rfl,n3,b⟩
   have hN:=hN.next b
   have hv:=hv.next b
   have hnx:=ag hnx b
   clear b n2
   have hX:x+2^i<4294967296^(L+2):=by
    have h1:=ae HSB x (ae hAt).1
    have h2:=ae HPQ i (by omega)
    rw[show L+2=L+1+1 from rfl,Nat.pow_succ]
    omega
   have h0:0<x+2^i:=by have:=Nat.two_pow_pos i;omega
   obtain⟨p,hp⟩:∃ p,p=decide ((x+2^i)^k<=a):=⟨_,rfl⟩
   have CP:=hide (qI w4 _ _ _ _ k (L+2) p hk h0 hX (ae HA) (by omega) n3 hv hp hk0)
   have hQi:i<=Q:=by omega
   have HP:=hide hp
   clear hX h0 hp
   go_wp2_with fail
   refine(ae CP).mono ?_
   rintro e w5 ⟨rfl,b⟩
   have hN:=hN.next b
   have hv:=hv.next b
   have n3:=n3.next b
   have hnx:=ag hnx b
   clear b CP
   cases p
   ·have R1:=hide (Nr (ae hAt) (of_decide_eq_false (ae HP).symm))
    clear HP hAt
    go_wp2
    exact⟨⟨i,x,by omega,by go_num,R1,hN,hv,hnx⟩,by simp[intOf]⟩
   ·have R1:=hide (IU (ae hAt) (of_decide_eq_true (ae HP).symm))
    clear HP hAt
    go_wp2
    exact⟨⟨i,_,by omega,by go_num,R1,n3,hv,hnx⟩,by simp[intOf]⟩
  ·obtain rfl:q=0:=by omega
   have R1:=hide (ln (IP (ae hAt)) (ae HS))
   clear hAt
   go_wp2
   go_ret
   rw[<-ae R1]
   exact⟨_,rfl,hN,hnx⟩
set_option maxRecDepth 100000 in
set_option maxHeartbeats 3200000 in
theorem nM(w:World)(v:Value)(a s L:Nat)(ha:a<4294967296^L)(hL:L<=10000)(hv:aY w v a)(hs:bU 2 a s):
  Calls Tryz.prog 12 #[v] w fun e w'=>∃ r,e=.returned r/\aY w' r s/\Below w.heap.size w w':=by
 have CR:=hide (nK w v a 2 s L (by decide) (by decide) ha hL hv hs)
 clear ha hs hv
 go_enter Tryz.func12,Tryz.ntmps12
 go_wp2_with fail
 refine(ae CR).mono ?_
 rintro e w1 ⟨r,rfl,n1,b⟩
 clear CR
 go_wp2
 go_ret
 exact⟨r,rfl,n1,b⟩
end Go.Proofs.YtgcnhfgpflncaaaGreatDoor
