/- Package prime: the tables; how many twos; a product, a power, Miller's test modulo any word. -/
import Derived.Test.YtgcnhfgpflncaaaGreatDoorB2
import Derived.Test.YtgcnhfgpflncaaaGreatDoorB24
import Derived.Test.YtgcnhfgpflncaaaGreatDoorB29
import Derived.Test.YtgcnhfgpflncaaaGreatDoorB8
import Derived.Laws.Bits64b
namespace Go.Proofs.YtgcnhfgpflncaaaGreatDoor
open Go.RowKit
structure TB(w:World):Prop where
 b:∀ j,j<12->w.cell? ⟨3,j,none⟩=some (.int .u64 (bs j:Int))
 d:∀ j,j<64->w.cell? ⟨2,j,none⟩=some (.int .u8 (Lib.deBruijn64tab.getD j 0:Int))
theorem TB.next{w w':World}(h:TB w)(hb:Below w.heap.size w w'):TB w':=
 ⟨fun j hj=>(hb.cell (p:=⟨3,j,none⟩) (World.block_lt_of_cell? _ _ (h.b j hj))).trans (h.b j hj),
  fun j hj=>(hb.cell (p:=⟨2,j,none⟩) (World.block_lt_of_cell? _ _ (h.d j hj))).trans (h.d j hj)⟩
theorem O0(x a:Nat)(hx:x<18446744073709551616)(hx0:x≠0)(hlow:x&&& (18446744073709551616-x)=a):
  IntKind.u64.wrap (bits BinOp.and IntKind.u64 (x:Int) (IntKind.u64.wrap (-(x:Int)))*285870213051353865)/288230376151711744=((a*285870213051353865%18446744073709551616/288230376151711744:Nat):Int):=by
 have e1:IntKind.u64.wrap (-(x:Int))=((18446744073709551616-x:Nat):Int):=by rw[IntKind.wrap_u64];omega
 rw[e1,bits_and_u64_nat x _ hx (by omega),hlow,IntKind.wrap_u64]
 omega
set_option maxHeartbeats 1600000 in
theorem MP(x k idx:Nat)(w:World)(hx0:((x:Int)==0)=false)
  (key:IntKind.u64.wrap (bits BinOp.and IntKind.u64 (x:Int) (IntKind.u64.wrap (-(x:Int)))*285870213051353865)/288230376151711744=(idx:Int))
  (hi:idx<64) (hk:k<64) (hcell:w.cell? ⟨2,idx,none⟩=some (.int .u8 (k:Int))):
  Calls Tryz.prog 207 #[.int .u64 (x:Int)] w fun e w'=>e=.returned (.int .i64 (k:Int))/\w'=w:=by
 go_enter Tryz.func207,Tryz.ntmps207
 go_wp2_with (simp only[key])
 go_ret
 exact⟨rfl,rfl⟩
theorem Jw(x:Nat)(w:World)(hx:x<18446744073709551616)(hx0:x≠0)(hT:TB w):
  Calls Tryz.prog 207 #[.int .u64 (x:Int)] w fun e w'=>e=.returned (.int .i64 (Lib.ctz 64 x:Int))/\w'=w:=by
 obtain⟨hlow,hk⟩:=Lib.lowest_bit 64 x hx0 hx
 obtain⟨hi,htab⟩:=Lib.deBruijn64_at _ hk
 have hcell:=hT.d _ hi
 rw[htab]at hcell
 exact MP x _ _ w (by simp;omega) (O0 x _ hx hx0 hlow) hi hk hcell
set_option maxHeartbeats 1600000 in
theorem times_any(n a b:Nat)(w:World)(ha:a<n)(hb:b<n)(hn:n<18446744073709551616):
  Calls Tryz.prog 222 #[.int .u64 (a:Int),.int .u64 (b:Int),.int .u64 (n:Int)] w fun e w'=>e=.returned (.int .u64 (ml n a b:Int))/\Below w.heap.size w w':=by
 have C2:=hide (fun w=>ij a b w (by omega) (by omega))
 have hhi:=rE ha hb (by omega)
 have hlo:=Nat.mod_lt (a*b) (show 0<18446744073709551616 by omega)
 have hT:=Nat.div_add_mod (a*b) 18446744073709551616
 have hR:ml n a b=a*b%n:=rfl
 generalize a*b/18446744073709551616=hi at *
 generalize a*b%18446744073709551616=lo at *
 rw[<-hT]at hR
 have C3:=fun w=>mM hi lo n w hhi hlo hn
 rw[<-hR]at C3
 have C3:=hide C3
 generalize (18446744073709551616*hi+lo)/n=Q at *
 generalize ml n a b=z at *
 clear hR hT
 go_enter Tryz.func222,Tryz.ntmps222
 go_wp2_with fail
 refine(ae C2 _).mono ?_
 rintro e w1 ⟨rfl,rfl⟩
 go_wp2_with fail
 refine(ae C3 _).mono ?_
 rintro e w2 ⟨rfl,b1⟩
 go_wp2
 go_ret
 exact⟨ax rfl,b1⟩
theorem D7(a b:Nat):(a:Int).tmod (b:Int)=((a%b:Nat):Int):=rfl
set_option maxHeartbeats 1600000 in
theorem DV(n A K:Nat)(w:World)(h1:1<n)(hA:A<n)(hn:n<18446744073709551616)(hK:K<18446744073709551616):
  Calls Tryz.prog 221 #[.int .u64 (A:Int),.int .u64 (K:Int),.int .u64 (n:Int)] w fun e w'=>e=.returned (.int .u64 (pw n A K:Int))/\Below w.heap.size w w':=by
 have CM:Hid (∀ x y w,x<n->y<n->Calls Tryz.prog 222 #[.int .u64 ((x:Nat):Int),.int .u64 ((y:Nat):Int),.int .u64 (n:Int)] w fun e w'=>e=.returned (.int .u64 (ml n x y:Int))/\Below w.heap.size w w'):=fun x y w hx hy=>times_any n x y w hx hy hn
 have H0:=hide (pL (n:=n) (A:=A) K h1 hA)
 have H1:Hid (∀ o s k,sJ n A K o s k->o<n/\s<n):=fun o s k h=>⟨h.1,h.2.1⟩
 have H2:=hide (fun o s k=>wI (n:=n) (A:=A) (K:=K) (o:=o) (s:=s) (k:=k))
 have H3:=hide (fun o s k=>rP (n:=n) (A:=A) (K:=K) (o:=o) (s:=s) (k:=k))
 have H4:=hide (fun o s=>pK (n:=n) (A:=A) (K:=K) (o:=o) (s:=s))
 generalize sJ n A K=T at *
 generalize pw n A K=Z at *
 generalize ml n=M at *
 go_enter Tryz.func221,Tryz.ntmps221
 go_wp2
 go_loopw [7,0,1] (fun ov sv kv wr=>∃(o s k:Nat),k<18446744073709551616/\ov=.int .u64 (o:Int)/\sv=.int .u64 (s:Int)/\kv=.int .u64 (k:Int)/\Hid (T o s k)/\Below w.heap.size w wr) (fun _ _ kv _=>(intOf kv).toNat)
 case atStart=>exact⟨1,A,K,hK,rfl,rfl,rfl,H0,Below.refl _ _⟩
 case round=>
  obtain⟨o,s,k,hk,rfl,rfl,rfl,hE,hb⟩:=hrel
  obtain⟨ho,hs⟩:=ae H1 _ _ _ hE.out
  by_cases h0:k=0
  ·subst h0
   have e:(o:Int)=(Z:Int):=by rw[ae H4 _ _ hE.out]
   have HE:=hide e
   clear e hE H0 H1 H2 H3 H4 CM
   go_wp2
   go_ret
   exact⟨ax (ae HE),hb⟩
  ·have hpos:(0:Int)<(k:Int):=by omega
   have e1:(k:Int).tmod 2=((k%2:Nat):Int):=D7 k 2
   have e2:(k:Int).tdiv 2=((k/2:Nat):Int):=rfl
   have e3:(k:Int)/2=((k/2:Nat):Int):=by omega
   have hlt:Hid (k/2<k):=by show _<_;omega
   have hk2:k/2<18446744073709551616:=by omega
   by_cases h2:k%2=1
   ·have HE:=hide (ae H2 _ _ _ hE.out h2)
    rw[h2]at e1
    have C1:=hide (ae CM o s · ho hs)
    have C2:=hide (ae CM s s · hs hs)
    clear hE H0 H1 H2 H3 H4 CM h0 h2 ho hs
    generalize k/2=j at *
    go_wp2_with fail
    refine(ae C1 _).mono ?_
    rintro e w6 ⟨rfl,b2⟩
    have hb:=ag hb b2
    clear b2
    go_wp2_with fail
    refine(ae C2 _).mono ?_
    rintro e w7 ⟨rfl,b2⟩
    have hb:=ag hb b2
    clear b2
    go_wp2
    go_roundw
    case rel=>exact⟨_,_,j,hk2,rfl,rfl,by go_num,HE,hb⟩
    case measure=>simp[intOf];exact ae hlt
   ·have HE:=hide (ae H3 _ _ _ hE.out h2)
    have h2':k%2=0:=by omega
    rw[h2']at e1
    have C2:=hide (ae CM s s · hs hs)
    clear hE H0 H1 H2 H3 H4 CM h0 h2 h2' ho hs
    generalize k/2=j at *
    go_wp2_with fail
    refine(ae C2 _).mono ?_
    rintro e w7 ⟨rfl,b2⟩
    have hb:=ag hb b2
    clear b2
    go_wp2
    go_roundw
    case rel=>exact⟨_,_,j,hk2,rfl,rfl,by go_num,HE,hb⟩
    case measure=>simp[intOf];exact ae hlt
end Go.Proofs.YtgcnhfgpflncaaaGreatDoor
/- Package prime:Miller's test by one base;the reference's too. -/
namespace Go.Proofs.YtgcnhfgpflncaaaGreatDoor
open Go.RowKit
theorem OQ{n k x:Nat}(h:x=n-1):sp n (k+1) x=true:=by unfold sp;rw[decide_eq_true h];rfl
theorem LZ{n k x:Nat}(h:¬x=n-1):sp n (k+1) x=sp n k (ml n x x):=by rw[sp,decide_eq_false h];rfl
theorem Ep(n x:Nat):sp n 0 x=false:=rfl
theorem gg{a b:Bool}(h:a=b):Ending.returned (.bool a)=.returned (.bool b):=by rw[h]
set_option maxHeartbeats 1600000 in
theorem ze(n b:Nat)(w:World)(h1:1<n)(hb:b<n)(hn:n<18446744073709551616)(hT:TB w):
  Calls Tryz.prog 220 #[.int .u64 (n:Int),.int .u64 (b:Int)] w fun e w'=>e=.returned (.bool (pass n b))/\Below w.heap.size w w':=by
 obtain⟨ht,_,hd⟩:=uj h1 hn
 have CT:=Jw (n-1) w (by omega) (by omega) hT
 have CM:Hid (∀ x w,x<n->Calls Tryz.prog 222 #[.int .u64 ((x:Nat):Int),.int .u64 ((x:Nat):Int),.int .u64 (n:Int)] w fun e w'=>e=.returned (.int .u64 (ml n x x:Int))/\Below w.heap.size w w'):=fun x w hx=>times_any n x x w hx hx hn
 have hod:(n-1)/2^tw n=od n:=rfl
 have htw:Lib.ctz 64 (n-1)=tw n:=rfl
 rw[htw]at CT
 have hodl:od n<18446744073709551616:=by rw[<-hod];exact Nat.lt_of_le_of_lt (Nat.div_le_self _ _) (by omega)
 have CP:=hide (fun w=>DV n b (od n) w h1 hb hn hodl)
 have es:=fC (n-1) (tw n)
 rw[hod]at es
 have hx0:pw n b (od n)<n:=Nat.mod_lt _ (by omega)
 have hA:pass n b=(decide (pw n b (od n)=1)||sp n (tw n) (pw n b (od n))):=rfl
 generalize pw n b (od n)=x0 at *
 have hP1:x0=1->pass n b=true:=fun h=>by rw[hA,decide_eq_true h];rfl
 have hP2:¬x0=1->pass n b=sp n (tw n) x0:=fun h=>by rw[hA,decide_eq_false h];rfl
 have H1:=hide (fun k x=>OQ (n:=n) (k:=k) (x:=x))
 have H2:=hide (fun k x=>LZ (n:=n) (k:=k) (x:=x))
 have H3:=hide (Ep n)
 have HM:Hid (∀ x,ml n x x<n):=fun x=>Nat.mod_lt _ (by omega)
 clear hA hod htw hd hT
 generalize pass n b=Z at *
 generalize od n=d at *
 generalize tw n=t at *
 generalize sp n=S at *
 generalize ml n=M at *
 obtain⟨N,hN⟩:∃ N,N=n-1:=⟨_,rfl⟩
 rw[<-hN]at es CT H1 H2
 have eN:(n:Int)-1=(N:Int):=by omega
 have eNw:IntKind.u64.wrap (N:Int)=(N:Int):=by rw[IntKind.wrap_u64];omega
 have CT:=hide CT
 clear hN
 by_cases hx1:x0=1
 ·have HZ:=hide (hP1 hx1)
  subst hx1
  clear hP1 hP2 H1 H2 H3
  go_enter Tryz.func220,Tryz.ntmps220
  go_wp2_with fail
  refine(ae CT).mono ?_
  rintro e w1 ⟨rfl,rfl⟩
  go_wp2_with fail
  refine(ae CP _).mono ?_
  rintro e w2 ⟨rfl,b1⟩
  go_wp2
  go_ret
  exact⟨gg (ae HZ).symm,b1⟩
 ·have HZ:=hide (hP2 hx1)
  have hne:((x0:Int)==1)=false:=by rw[beq_eq_false_iff_ne];omega
  clear hP1 hP2 hx1
  go_enter Tryz.func220,Tryz.ntmps220
  go_wp2_with fail
  refine(ae CT).mono ?_
  rintro e w1 ⟨rfl,rfl⟩
  go_wp2_with fail
  refine(ae CP _).mono ?_
  rintro e w2 ⟨rfl,b1⟩
  clear CT CP es
  go_wp2
  go_loopw [6,20] (fun xv iv wr=>∃(x i:Nat),i<=t/\x<n/\xv=.int .u64 (x:Int)/\iv=.int .i64 (i:Int)/\Hid (Z=S (t-i) x)/\Below w1.heap.size w1 wr) (fun _ iv _=>t-(intOf iv).toNat)
  case atStart=>exact⟨x0,0,by omega,hx0,rfl,rfl,HZ,b1⟩
  case round=>
   clear b1 HZ hx0 hne
   obtain⟨x,i,hi,hx,rfl,rfl,hz,hb⟩:=hrel
   by_cases h0:i=t
   ·subst h0
    have hz2:=hz.out
    rw[Nat.sub_self,ae H3]at hz2
    have HZ:=hide hz2
    clear hz hz2 H1 H2 H3 CM
    go_wp2
    go_ret
    exact⟨gg (ae HZ).symm,hb⟩
   ·have hlt:(i:Int)<(t:Int):=by omega
    obtain⟨k,hk⟩:∃ k,t-i=k+1:=⟨t-i-1,by omega⟩
    have hk2:t-(i+1)=k:=by omega
    rw[hk]at hz
    by_cases hxn:x=N
    ·have hz2:=hz.out
     rw[ae H1 k x hxn]at hz2
     have HZ:=hide hz2
     have hxi:(x:Int)=(N:Int):=by omega
     clear hz hz2 H1 H2 H3 CM hk hk2 hxn
     go_wp2
     go_ret
     exact⟨gg (ae HZ).symm,hb⟩
    ·have hz2:=hz.out
     rw[ae H2 k x hxn, <-hk2]at hz2
     have HZ:=hide hz2
     have hxi:¬(x:Int)=(N:Int):=by omega
     have C1:=hide (ae CM x · hx)
     have hm:=ae HM x
     have hmm:Hid (t-(i+1)<t-i):=by show _<_;omega
     clear hz hz2 H1 H2 H3 CM HM hk hk2 hxn
     go_wp2_with fail
     refine(ae C1 _).mono ?_
     rintro e w6 ⟨rfl,b2⟩
     have hb:=ag hb b2
     clear b2
     go_wp2
     go_roundw
     case rel=>exact⟨_,i+1,by omega,hm,rfl,by go_num,HZ,hb⟩
     case measure=>simp[intOf];have:=ae hmm;omega
end Go.Proofs.YtgcnhfgpflncaaaGreatDoor
/- Package prime:Is;the reference's Prime. -/
namespace Go.Proofs.YtgcnhfgpflncaaaGreatDoor
open Go.RowKit
theorem JZ(a b:Nat):((a:Int)==(b:Int))=decide (a=b):=by
 by_cases h:a=b
 ·rw[decide_eq_true h,h];exact beq_self_eq_true _
 ·rw[decide_eq_false h,beq_eq_false_iff_ne];omega
theorem Dt{n k:Nat}(hf:∀ j,j<k->¬n%bs j=0)(h:¬n%bs k=0):∀ j,j<k+1->¬n%bs j=0:=fun j hj=>by
 by_cases e:j=k
 ·rw[e];exact h
 ·exact hf j (by omega)
theorem Ht{n k:Nat}(hf:∀ j,j<k->pass n (bs j)=true)(h:pass n (bs k)=true):∀ j,j<k+1->pass n (bs j)=true:=fun j hj=>by
 by_cases e:j=k
 ·rw[e];exact h
 ·exact hf j (by omega)
theorem zQ(w:World):∀ k:Nat,k<12->(Instr.index 232 (.agg #[.int .u64 2,.int .u64 3,.int .u64 5,.int .u64 7,.int .u64 11,.int .u64 13,.int .u64 17,.int .u64 19,.int .u64 23,.int .u64 29,.int .u64 31,.int .u64 37]) (.int .i64 (k:Int))).run Tryz.prog w=.ok (.int .u64 (bs k:Int)) w
 |0,_=>by kernel_rfl
 |1,_=>by kernel_rfl
 |2,_=>by kernel_rfl
 |3,_=>by kernel_rfl
 |4,_=>by kernel_rfl
 |5,_=>by kernel_rfl
 |6,_=>by kernel_rfl
 |7,_=>by kernel_rfl
 |8,_=>by kernel_rfl
 |9,_=>by kernel_rfl
 |10,_=>by kernel_rfl
 |11,_=>by kernel_rfl
 |k+12,h=>absurd h (by omega)
set_option maxRecDepth 100000 in
set_option maxHeartbeats 1600000 in
theorem Ol(n:Nat)(w:World)(hn:n<18446744073709551616)(hT:TB w):
  Calls Tryz.prog 217 #[.int .u64 (n:Int)] w fun e w'=>e=.returned (.bool (isP n))/\Below w.heap.size w w':=by
 by_cases h2:n<2
 ·have HZ:=hide (KR h2)
  generalize isP n=Z at *
  have hi:(n:Int)<2:=by omega
  clear h2
  go_enter Tryz.func217,Tryz.ntmps217
  go_wp2
  go_ret
  exact⟨gg (ae HZ).symm,Below.refl _ _⟩
 ·have hi:¬(n:Int)<2:=by omega
  have H1:=hide (fun k=>KQ (n:=n) (k:=k) (by omega))
  have H2:=hide (fun k hb hk=>G8 (n:=n) (k:=k) hb hk)
  have H3:=hide (fun hb=>oq (n:=n) (by omega) hb)
  have H4:=hide (Lj (n:=n) (by omega))
  have HM:=hide (fun k=>Dt (n:=n) (k:=k))
  have HA:=hide (fun k=>Ht (n:=n) (k:=k))
  have HT:=hide hT
  have HR:=hide lO
  generalize isP n=Z at *
  have b0:w.cell? ⟨3,0,none⟩=some (.int .u64 2):=hT.b 0 (by decide)
  have b1:w.cell? ⟨3,1,none⟩=some (.int .u64 3):=hT.b 1 (by decide)
  have b2:w.cell? ⟨3,2,none⟩=some (.int .u64 5):=hT.b 2 (by decide)
  have b3:w.cell? ⟨3,3,none⟩=some (.int .u64 7):=hT.b 3 (by decide)
  have b4:w.cell? ⟨3,4,none⟩=some (.int .u64 11):=hT.b 4 (by decide)
  have b5:w.cell? ⟨3,5,none⟩=some (.int .u64 13):=hT.b 5 (by decide)
  have b6:w.cell? ⟨3,6,none⟩=some (.int .u64 17):=hT.b 6 (by decide)
  have b7:w.cell? ⟨3,7,none⟩=some (.int .u64 19):=hT.b 7 (by decide)
  have b8:w.cell? ⟨3,8,none⟩=some (.int .u64 23):=hT.b 8 (by decide)
  have b9:w.cell? ⟨3,9,none⟩=some (.int .u64 29):=hT.b 9 (by decide)
  have b10:w.cell? ⟨3,10,none⟩=some (.int .u64 31):=hT.b 10 (by decide)
  have b11:w.cell? ⟨3,11,none⟩=some (.int .u64 37):=hT.b 11 (by decide)
  go_enter Tryz.func217,Tryz.ntmps217
  go_wp2
  clear hT b0 b1 b2 b3 b4 b5 b6 b7 b8 b9 b10 b11
  go_loopw [10] (fun iv wr=>∃ k:Nat,k<=12/\iv=.int .i64 (k:Int)/\Hid (∀ j,j<k->¬n%bs j=0)/\Hid (wr=w)) (fun iv _=>12-(intOf iv).toNat)
  case atStart=>exact⟨0,by omega,rfl,fun j hj=>absurd hj (by omega),rfl⟩
  case round=>
   obtain⟨k,hk,rfl,hf,hw⟩:=hrel
   by_cases h12:k=12
   ·subst h12
    obtain rfl:=hw.out.symm
    have b0:w.cell? ⟨3,0,none⟩=some (.int .u64 2):=(ae HT).b 0 (by decide)
    have b1:w.cell? ⟨3,1,none⟩=some (.int .u64 3):=(ae HT).b 1 (by decide)
    have b2:w.cell? ⟨3,2,none⟩=some (.int .u64 5):=(ae HT).b 2 (by decide)
    have b3:w.cell? ⟨3,3,none⟩=some (.int .u64 7):=(ae HT).b 3 (by decide)
    have b4:w.cell? ⟨3,4,none⟩=some (.int .u64 11):=(ae HT).b 4 (by decide)
    have b5:w.cell? ⟨3,5,none⟩=some (.int .u64 13):=(ae HT).b 5 (by decide)
    have b6:w.cell? ⟨3,6,none⟩=some (.int .u64 17):=(ae HT).b 6 (by decide)
    have b7:w.cell? ⟨3,7,none⟩=some (.int .u64 19):=(ae HT).b 7 (by decide)
    have b8:w.cell? ⟨3,8,none⟩=some (.int .u64 23):=(ae HT).b 8 (by decide)
    have b9:w.cell? ⟨3,9,none⟩=some (.int .u64 29):=(ae HT).b 9 (by decide)
    have b10:w.cell? ⟨3,10,none⟩=some (.int .u64 31):=(ae HT).b 10 (by decide)
    have b11:w.cell? ⟨3,11,none⟩=some (.int .u64 37):=(ae HT).b 11 (by decide)
    obtain⟨hodd,hbig⟩:=ae H4 hf.out
    go_wp2
    clear b0 b1 b2 b3 b4 b5 b6 b7 b8 b9 b10 b11 hw
    go_loopw [22] (fun iv wr=>∃ k:Nat,k<=12/\iv=.int .i64 (k:Int)/\Hid (∀ j,j<k->pass n (bs j)=true)/\Below w.heap.size w wr) (fun iv _=>12-(intOf iv).toNat)
    case atStart=>exact⟨0,by omega,rfl,fun j hj=>absurd hj (by omega),Below.refl _ _⟩
    case round=>
     obtain⟨k,hk,rfl,hp,hb⟩:=hrel
     by_cases h12:k=12
     ·subst h12
      have HZ:=hide (ae H3 hf.out hp.out)
      go_wp2
      go_ret
      exact⟨gg (ae HZ).symm,hb⟩
     ·have hlt:(k:Int)<12:=by omega
      have hix:=zQ wr k (by omega)
      have hrb:=ae HR k (by omega)
      have CP:=hide (ze n (bs k) wr (by omega) (by omega) hn ((ae HT).next hb))
      cases hpass:pass n (bs k)
      ·have HZ:=hide (ae H2 k hf.out (by omega) hpass)
       rw[hpass]at CP
       generalize bs k=b at *
       clear hpass hp
       go_wp2_with fail
       refine(ae CP).mono ?_
       rintro e w6 ⟨rfl,b2⟩
       go_wp2
       go_ret
       exact⟨gg (ae HZ).symm,ag hb b2⟩
      ·have HP:=hide (ae HA k hp.out hpass)
       rw[hpass]at CP
       generalize bs k=b at *
       clear hpass hp
       go_wp2_with fail
       refine(ae CP).mono ?_
       rintro e w6 ⟨rfl,b2⟩
       go_wp2
       go_roundw
       case rel=>exact⟨k+1,by omega,by go_num,HP,ag hb b2⟩
       case measure=>simp[intOf];omega
   ·have hlt:(k:Int)<12:=by omega
    have hix:=zQ wr k (by omega)
    have hrb:=ae HR k (by omega)
    have hm:(n:Int)%(bs k:Int)=((n%bs k:Nat):Int):=rfl
    by_cases h0:n%bs k=0
    ·have hz:=ae H1 k (by omega) hf.out h0
     rw[<-JZ]at hz
     have HZ:=hide hz
     rw[h0]at hm
     have hnz:¬(bs k:Int)=0:=by omega
     generalize bs k=b at *
     clear hf h0 hz
     go_wp2
     go_ret
     obtain rfl:=hw.out
     exact⟨gg (ae HZ).symm,Below.refl _ _⟩
    ·have HF:=hide (ae HM k hf.out h0)
     have hnz:¬(bs k:Int)=0:=by omega
     have hm0:¬((n%bs k:Nat):Int)=0:=by omega
     generalize n%bs k=r at *
     generalize bs k=b at *
     clear hf h0
     go_wp2
     go_roundw
     case rel=>exact⟨k+1,by omega,by go_num,HF,hw⟩
     case measure=>simp[intOf];omega
end Go.Proofs.YtgcnhfgpflncaaaGreatDoor
/- The reference's Prime. -/
namespace Go.Proofs.YtgcnhfgpflncaaaGreatDoor
open Go.RowKit
end Go.Proofs.YtgcnhfgpflncaaaGreatDoor
/- Reverse64 of math/bits:a word's binary digits from the other end. -/
namespace Go.Proofs.YtgcnhfgpflncaaaGreatDoor
open Go.RowKit
def rev:Nat->Nat->Nat
 |0,_=>0
 |L+1,x=>(x%2)*2^L+rev L (x/2)
theorem pN:∀(L x:Nat),rev L x<2^L
 |0,_=>Nat.zero_lt_one
 |L+1,x=>by
  have:=pN L (x/2)
  have h2:x%2<2:=Nat.mod_lt _ (by decide)
  show x%2*2^L+rev L (x/2)<_
  rw[Nat.pow_succ]
  rcases(show x%2=0\/x%2=1 by omega)with h|h<;>rw[h]<;>omega
theorem II(L q:Nat):rev (L+1) (2*q)=rev L q:=by
 show(2*q)%2*2^L+rev L (2*q/2)=_
 rw[show 2*q%2=0 by omega,show 2*q/2=q by omega]
 omega
theorem LJ(L q:Nat):rev (L+1) (2*q+1)=rev L q+2^L:=by
 show(2*q+1)%2*2^L+rev L ((2*q+1)/2)=_
 rw[show(2*q+1)%2=1 by omega,show(2*q+1)/2=q by omega]
 omega
theorem oz:∀(L x i:Nat),(rev L x).testBit i=(decide (i<L)&&x.testBit (L-1-i))
 |0,x,i=>by simp[rev]
 |L+1,x,i=>by
  show(x%2*2^L+rev L (x/2)).testBit i=_
  rw[Nat.mul_comm]
  rw[Nat.testBit_two_pow_mul_add _ (pN L (x/2))]
  by_cases h:i<L
  ·rw[if_pos h,oz L (x/2) i,Nat.testBit_div_two]
   simp[h,show i<L+1 by omega,show L-1-i+1=L-i by omega]
  ·rw[if_neg h]
   by_cases h2:i=L
   ·subst h2
    simp[Nat.testBit_zero]
   ·have h3:¬i<L+1:=by omega
    rw[decide_eq_false h3,Bool.false_and]
    apply Nat.testBit_lt_two_pow
    have h4:x%2<2:=Nat.mod_lt _ (by decide)
    have:2^1<=2^(i-L):=Nat.pow_le_pow_right (by decide) (by omega)
    omega
theorem tO{L x:Nat}(h:x<2^L):rev L (rev L x)=x:=by
 apply Nat.eq_of_testBit_eq
 intro i
 rw[oz,oz]
 by_cases hi:i<L
 ·simp[hi,show L-1-i<L by omega,show L-1-(L-1-i)=i by omega]
 ·rw[decide_eq_false hi,Bool.false_and]
  symm
  exact Nat.testBit_lt_two_pow (Nat.lt_of_lt_of_le h (Nat.pow_le_pow_right (by decide) (by omega)))
def sw(k m x:Nat):Nat:=(x/2^k&&& m)||| ((x&&& m)*2^k)
def swp(k i:Nat):Nat:=if i/k%2=0 then i+k else i-k
theorem sg{k m x:Nat}(hm:m<2^(64-k))(hk:k<=64):sw k m x<18446744073709551616:=by
 have e:(18446744073709551616:Nat)=2^64:=by decide
 rw[e]
 have h1:m<2^64:=Nat.lt_of_lt_of_le hm (Nat.pow_le_pow_right (by decide) (by omega))
 refine Nat.or_lt_two_pow (Nat.and_lt_two_pow _ h1) ?_
 have h2:x&&& m<2^(64-k):=Nat.and_lt_two_pow _ hm
 have:(2:Nat)^64=2^(64-k)*2^k:=by rw[<-Nat.pow_add];congr 1;omega
 rw[this]
 exact Nat.mul_lt_mul_of_pos_right h2 (Nat.pow_pos (by decide))
theorem nj{k m:Nat}(x:Nat){i:Nat}(hk:0<k)(hM:∀ i,i<64->m.testBit i=decide (i/k%2=0))(hi:i<64):(sw k m x).testBit i=x.testBit (swp k i):=by
 unfold sw swp
 rw[Nat.testBit_or,Nat.testBit_and,Nat.testBit_div_two_pow,Nat.testBit_mul_two_pow,Nat.testBit_and,hM i hi]
 by_cases h0:i/k%2=0
 ·rw[if_pos h0]
  by_cases h1:k<=i
  ·rw[hM (i-k) (by omega)]
   have h2:(i-k)/k%2=1:=by
    have e:i=(i-k)+k:=by omega
    rw[e,Nat.add_div_right _ hk]at h0
    omega
   simp[h0,h2,Nat.add_comm]
  ·simp[h0,h1,Nat.add_comm]
 ·rw[if_neg h0]
  have h1:k<=i:=by
   apply Nat.le_of_not_lt
   intro h
   rw[Nat.div_eq_of_lt h]at h0
   exact h0 rfl
  rw[hM (i-k) (by omega)]
  have h2:(i-k)/k%2=0:=by
   have e:i=(i-k)+k:=by omega
   rw[e,Nat.add_div_right _ hk]at h0
   omega
  simp[h0,h1,h2]
def D9(x:Nat):Nat:=sw 32 4294967295 (sw 16 281470681808895 (sw 8 71777214294589695 x))
def Np(x:Nat):Nat:=D9 (sw 4 1085102592571150095 (sw 2 3689348814741910323 (sw 1 6148914691236517205 x)))
theorem OJ(x:Nat):Np x<18446744073709551616:=sg (by decide) (by decide)
theorem LF(x:Nat){i:Nat}(hi:i<64):(Np x).testBit i=x.testBit (63-i):=by
 have s1:∀ i,i<64->swp 1 i<64:=by decide+kernel
 have s2:∀ i,i<64->swp 2 i<64:=by decide+kernel
 have s4:∀ i,i<64->swp 4 i<64:=by decide+kernel
 have s8:∀ i,i<64->swp 8 i<64:=by decide+kernel
 have s16:∀ i,i<64->swp 16 i<64:=by decide+kernel
 have s32:∀ i,i<64->swp 32 i<64:=by decide+kernel
 unfold Np D9
 rw[nj _ (by decide) (by decide+kernel) hi,nj _ (by decide) (by decide+kernel) (s32 _ hi),nj _ (by decide) (by decide+kernel) (s16 _ (s32 _ hi)),
  nj _ (by decide) (by decide+kernel) (s8 _ (s16 _ (s32 _ hi))),nj _ (by decide) (by decide+kernel) (s4 _ (s8 _ (s16 _ (s32 _ hi)))),nj _ (by decide) (by decide+kernel) (s2 _ (s4 _ (s8 _ (s16 _ (s32 _ hi)))))]
 have:∀ i,i<64->swp 1 (swp 2 (swp 4 (swp 8 (swp 16 (swp 32 i)))))=63-i:=by decide+kernel
 rw[this i hi]
theorem LG{L:Nat}(x:Nat)(hL:L<=64):Np x/2^(64-L)=rev L x:=by
 apply Nat.eq_of_testBit_eq
 intro i
 rw[Nat.testBit_div_two_pow,oz]
 by_cases hi:i<L
 ·rw[LF x (by omega)]
  simp[hi,show 63-(i+(64-L))=L-1-i by omega]
 ·rw[decide_eq_false hi,Bool.false_and]
  apply Nat.testBit_lt_two_pow
  have h1:=OJ x
  have e:(18446744073709551616:Nat)=2^64:=by decide
  rw[e]at h1
  exact Nat.lt_of_lt_of_le h1 (Nat.pow_le_pow_right (by decide) (by omega))
theorem qe(k m K x:Nat)(hx:x<18446744073709551616)(hK:K=2^k)(hk:k<=64)(hm:m<2^(64-k)):
  bits BinOp.or IntKind.u64 (bits BinOp.and IntKind.u64 ((x:Int)/(K:Int)) (m:Int)) (IntKind.u64.wrap (bits BinOp.and IntKind.u64 (x:Int) (m:Int)*(K:Int)))=(sw k m x:Int):=by
 have e:(18446744073709551616:Nat)=2^64:=by decide
 have hm2:m<18446744073709551616:=by rw[e];exact Nat.lt_of_lt_of_le hm (Nat.pow_le_pow_right (by decide) (by omega))
 have hd:x/K<18446744073709551616:=Nat.lt_of_le_of_lt (Nat.div_le_self _ _) hx
 have h3:(x&&& m)*2^k<18446744073709551616:=by
  have h2:x&&& m<2^(64-k):=Nat.and_lt_two_pow _ hm
  have:(2:Nat)^64=2^(64-k)*2^k:=by rw[<-Nat.pow_add];congr 1;omega
  rw[e,this]
  exact Nat.mul_lt_mul_of_pos_right h2 (Nat.pow_pos (by decide))
 have h4:x/K&&& m<18446744073709551616:=by rw[e];rw[e]at hm2;exact Nat.and_lt_two_pow _ hm2
 have e1:((x:Int)/(K:Int))=((x/K:Nat):Int):=rfl
 rw[e1,bits_and_u64_nat _ _ hd hm2,bits_and_u64_nat _ _ hx hm2]
 subst hK
 have e2:IntKind.u64.wrap (((x&&& m:Nat):Int)*((2^k:Nat):Int))=(((x&&& m)*2^k:Nat):Int):=by
  rw[IntKind.wrap_u64, <-Int.natCast_mul]
  omega
 rw[e2,bits_or_u64_nat _ _ h4 h3]
 rfl
theorem MC(x:Nat)(hx:x<18446744073709551616):
  bits BinOp.or IntKind.u64 ((x:Int)/4294967296) (IntKind.u64.wrap ((x:Int)*4294967296))=(sw 32 4294967295 x:Int):=by
 have hd:x/4294967296<18446744073709551616:=by omega
 have h3:x*4294967296%18446744073709551616<18446744073709551616:=Nat.mod_lt _ (by decide)
 have e1:((x:Int)/4294967296)=((x/4294967296:Nat):Int):=rfl
 have e2:IntKind.u64.wrap ((x:Int)*4294967296)=((x*4294967296%18446744073709551616:Nat):Int):=by
  rw[IntKind.wrap_u64];omega
 rw[e1,e2,bits_or_u64_nat _ _ hd h3]
 unfold sw
 have a1:x/2^32&&& 4294967295=x/4294967296:=by
  rw[show(4294967295:Nat)=2^32-1 by decide,Nat.and_two_pow_sub_one_eq_mod]
  show x/4294967296%4294967296=_
  omega
 have a2:(x&&& 4294967295)*2^32=x*4294967296%18446744073709551616:=by
  rw[show(4294967295:Nat)=2^32-1 by decide,Nat.and_two_pow_sub_one_eq_mod]
  show x%4294967296*4294967296=_
  omega
 rw[a1,a2]
set_option maxHeartbeats 1600000 in
theorem tM(x:Nat)(w:World)(hx:x<18446744073709551616):
  Calls Tryz.prog 219 #[.int .u64 (x:Int)] w fun e w'=>e=.returned (.int .u64 (D9 x:Int))/\w'=w:=by
 have k1:bits BinOp.or IntKind.u64 (bits BinOp.and IntKind.u64 ((x:Int)/256) 71777214294589695) (IntKind.u64.wrap (bits BinOp.and IntKind.u64 (x:Int) 71777214294589695*256))=(sw 8 71777214294589695 x:Int):=qe 8 71777214294589695 256 x hx (by decide) (by decide) (by decide)
 have l1:sw 8 71777214294589695 x<18446744073709551616:=sg (by decide) (by decide)
 have k2:bits BinOp.or IntKind.u64 (bits BinOp.and IntKind.u64 ((sw 8 71777214294589695 x:Int)/65536) 281470681808895) (IntKind.u64.wrap (bits BinOp.and IntKind.u64 (sw 8 71777214294589695 x:Int) 281470681808895*65536))=(sw 16 281470681808895 (sw 8 71777214294589695 x):Int):=qe 16 281470681808895 65536 _ l1 (by decide) (by decide) (by decide)
 have l2:sw 16 281470681808895 (sw 8 71777214294589695 x)<18446744073709551616:=sg (by decide) (by decide)
 have k3:=MC _ l2
 have HE:Hid (D9 x=sw 32 4294967295 (sw 16 281470681808895 (sw 8 71777214294589695 x))):=rfl
 generalize sw 32 4294967295 (sw 16 281470681808895 (sw 8 71777214294589695 x))=z at *
 generalize sw 16 281470681808895 (sw 8 71777214294589695 x)=y at *
 generalize sw 8 71777214294589695 x=v at *
 rw[ae HE]
 go_enter Tryz.func219,Tryz.ntmps219
 go_wp2
 go_ret
 exact⟨rfl,rfl⟩
set_option maxHeartbeats 1600000 in
theorem qJ(x:Nat)(w:World)(hx:x<18446744073709551616):
  Calls Tryz.prog 211 #[.int .u64 (x:Int)] w fun e w'=>e=.returned (.int .u64 (Np x:Int))/\w'=w:=by
 have k1:bits BinOp.or IntKind.u64 (bits BinOp.and IntKind.u64 ((x:Int)/2) 6148914691236517205) (IntKind.u64.wrap (bits BinOp.and IntKind.u64 (x:Int) 6148914691236517205*2))=(sw 1 6148914691236517205 x:Int):=qe 1 6148914691236517205 2 x hx (by decide) (by decide) (by decide)
 have l1:sw 1 6148914691236517205 x<18446744073709551616:=sg (by decide) (by decide)
 have k2:bits BinOp.or IntKind.u64 (bits BinOp.and IntKind.u64 ((sw 1 6148914691236517205 x:Int)/4) 3689348814741910323) (IntKind.u64.wrap (bits BinOp.and IntKind.u64 (sw 1 6148914691236517205 x:Int) 3689348814741910323*4))=(sw 2 3689348814741910323 (sw 1 6148914691236517205 x):Int):=qe 2 3689348814741910323 4 _ l1 (by decide) (by decide) (by decide)
 have l2:sw 2 3689348814741910323 (sw 1 6148914691236517205 x)<18446744073709551616:=sg (by decide) (by decide)
 have k3:bits BinOp.or IntKind.u64 (bits BinOp.and IntKind.u64 ((sw 2 3689348814741910323 (sw 1 6148914691236517205 x):Int)/16) 1085102592571150095) (IntKind.u64.wrap (bits BinOp.and IntKind.u64 (sw 2 3689348814741910323 (sw 1 6148914691236517205 x):Int) 1085102592571150095*16))=(sw 4 1085102592571150095 (sw 2 3689348814741910323 (sw 1 6148914691236517205 x)):Int):=qe 4 1085102592571150095 16 _ l2 (by decide) (by decide) (by decide)
 have l3:sw 4 1085102592571150095 (sw 2 3689348814741910323 (sw 1 6148914691236517205 x))<18446744073709551616:=sg (by decide) (by decide)
 have CB:=hide (tM _ w l3)
 have HE:Hid (Np x=D9 (sw 4 1085102592571150095 (sw 2 3689348814741910323 (sw 1 6148914691236517205 x)))):=rfl
 generalize sw 4 1085102592571150095 (sw 2 3689348814741910323 (sw 1 6148914691236517205 x))=z at *
 generalize sw 2 3689348814741910323 (sw 1 6148914691236517205 x)=y at *
 generalize sw 1 6148914691236517205 x=v at *
 rw[ae HE]
 generalize D9 z=r at *
 go_enter Tryz.func211,Tryz.ntmps211
 go_wp2_with fail
 refine(ae CB).mono ?_
 rintro e w1 ⟨rfl,rfl⟩
 go_wp2
 go_ret
 exact⟨rfl,rfl⟩
end Go.Proofs.YtgcnhfgpflncaaaGreatDoor
