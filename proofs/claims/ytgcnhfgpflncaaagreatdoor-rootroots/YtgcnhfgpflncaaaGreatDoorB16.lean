/- Shl: a natural moved up. -/
import Derived.Test.YtgcnhfgpflncaaaGreatDoorB12
import Derived.Test.YtgcnhfgpflncaaaGreatDoorB10
namespace Go.Proofs.YtgcnhfgpflncaaaGreatDoor
open Go.RowKit
def uI(xs os:List Nat)(s t k c:Nat):Prop:=os.length=s+k/\js os/\c<4294967296/\val os+4294967296^(s+k)*c=4294967296^s*(2^t*val (xs.take k))
theorem zeros(n:Nat):js (List.replicate n 0)/\val (List.replicate n 0)=0:=by
 have h:=rF [] [] n
 exact⟨h.2.1,by simpa [val]using h.2.2.2⟩
theorem En(xs:List Nat)(s t:Nat):uI xs (List.replicate s 0) s t 0 0:=⟨by simp,(zeros s).1,by omega,by rw[(zeros s).2];simp[val]⟩
theorem IZ{xs os:List Nat}{s t k c z:Nat}(h:uI xs os s t k c)(hz:z=xs.getD k 0*2^t)(hzb:z<9223372036854775808):uI xs (os++[(c+z)%4294967296]) s t (k+1) ((c+z)/4294967296):=by
 obtain⟨h1,h2,h3,h4⟩:=h
 refine⟨by simp[h1];omega,jA h2 (by omega),by omega,?_⟩
 rw[iG,h1,aD, <-Nat.add_assoc,Nat.pow_succ,Nat.mul_assoc]
 have e:4294967296^(s+k)*((c+z)%4294967296)+4294967296^(s+k)*(4294967296*((c+z)/4294967296))=4294967296^(s+k)*c+4294967296^(s+k)*z:=by
  rw[<-Nat.mul_add,Nat.mod_add_div,Nat.mul_add]
 have e2:4294967296^s*(2^t*(val (xs.take k)+4294967296^k*xs.getD k 0))=4294967296^s*(2^t*val (xs.take k))+4294967296^(s+k)*z:=by
  rw[Nat.mul_add,Nat.mul_add,hz,Nat.pow_add,Nat.mul_left_comm (2^t),Nat.mul_comm (2^t) (xs.getD k 0),Nat.mul_assoc]
 omega
theorem LX{xs os:List Nat}{s t k c:Nat}(h:uI xs os s t k c)(hk:xs.length<=k):js (os++[c])/\val (os++[c])=val xs*2^(32*s+t):=by
 obtain⟨h1,h2,h3,h4⟩:=h
 refine⟨jA h2 h3,?_⟩
 rw[iG,h1,h4,dM _ _ hk,Nat.pow_add,Nat.pow_mul, <-Nat.mul_assoc,Nat.mul_comm (val xs)]
theorem rL{w1:World}{B t g cap k d:Nat}{os:List Nat}(h:w1.ownsRow B t 1 (.slice (some ⟨g,0,none⟩) (k+1) cap) (k+1) (cellsOf os++[.int .u64 ((d:Nat):Int)])):
  w1.ownsRow B t 1 (.slice (some ⟨g,0,none⟩) (k+1) cap) (k+1) (cellsOf (os++[d])):=by simpa using h
theorem DR(w:World)(s cap t:Nat)(hs:s<=cap)(hc:cap<=maxLen):(w.alloc (.cells (aF cap).toArray t)).ownsRow w.heap.size t 1 (.slice (some ⟨w.heap.size,0,none⟩) s cap) s (cellsOf (List.replicate s 0)):=by
 refine⟨by simp,Or.inr ⟨w.heap.size,cap,(aF cap).toArray,rfl,Nat.le_refl _,heap_alloc_new w _,hs,hc,by simp[dr],?_⟩⟩
 simp[aF,cellsOf,Nat.min_eq_left hs]
set_option maxRecDepth 100000 in
set_option maxHeartbeats 3200000 in
theorem LY(w:World)(ga:Option Addr)(ba oa ca la n s t:Nat)(xs:List Nat)(hx:xs.length=la)(ha:la<=1073741824)(h0:0<la)(hs:s=n/32)(ht:t=n%32)(hn:n<=17179869184)
  (hA:Rep w ga ba oa ca xs) (dx:js xs):
  Calls Tryz.prog 47 #[.slice ga la ca,.int .i64 (n:Int)] w fun e w'=>∃ v,e=.returned v/\aY w' v (val xs*2^n)/\Below w.heap.size w w':=by
 obtain⟨i0,hi,hz0,hz1,hz2⟩:=info_parts Tryz.infoU
 have hnz:((la:Int)==0)=false:=by rw[beq_eq_false_iff_ne];omega
 have es:(n:Int)/32=(s:Int):=by omega
 have et:(n:Int)%32=(t:Int):=by omega
 have ht32:t<32:=by omega
 have hsb:s<=536870912:=by omega
 have hne:n=32*s+t:=by omega
 have HN:=hide hne
 obtain⟨cp,hcp⟩:∃ cp,cp=s+la+1:=⟨_,rfl⟩
 have hmk:∀ w,(Instr.makeSlice 32 (.int .i64 (s:Int)) (.int .i64 ((s:Int)+(la:Int)+1))).run Tryz.prog w=.ok (.slice (some ⟨w.heap.size,0,none⟩) s cp) (w.alloc (.cells (aF cp).toArray 41)):=fun w=>by
  have h:=run_make (P:=Tryz.prog) w 32 41 i0 (.int .u64 0) Tryz.underlying32 hi hz0 .i64 .i64 (s:Int) ((s:Int)+(la:Int)+1) (by omega) (by omega) (by rw[hz2];omega) (by omega)
  rw[h]
  have e1:((s:Int)).toNat=s:=by omega
  have e2:((s:Int)+(la:Int)+1).toNat=cp:=by omega
  rw[e1,e2,hz1,Nat.mul_one,iY]
 have ho0:=DR w s cp 41 (by omega) (by unfold maxLen;omega)
 have hcp1:s+la+1<=cp:=by omega
 have HCP:=hide hcp
 obtain rfl:=hA.head (by omega)
 have hb0:Below w.heap.size w (w.alloc (.cells (aF cp).toArray 41)):=(Below.refl _ _).alloc (Nat.le_refl _) _
 have HO:=hide ho0
 clear hs ht hcp hne ho0
 go_enter Tryz.func47,Tryz.ntmps47
 go_wp2
 clear hmk
 go_loopw [5,6,7] (fun out c i wr=>∃(k cy:Nat) (os:List Nat),k<=la/\c=.int .u64 (cy:Int)/\i=.int .i64 (k:Int)/\out=.slice (some ⟨w.heap.size,0,none⟩) (s+k) cp/\cy<4294967296/\
   wr.ownsRow w.heap.size 41 1 (.slice (some ⟨w.heap.size,0,none⟩) (s+k) cp) (s+k) (cellsOf os)/\Hid (uI xs os s t k cy)/\Below w.heap.size w wr)
  (fun _ _ i _=>la-(intOf i).toNat)
 case atStart=>exact⟨0,0,_,Nat.zero_le _,rfl,rfl,rfl,by omega,ae HO,En xs s t,hb0⟩
 case round=>
  obtain⟨k,cy,os,hk,rfl,rfl,rfl,hcy,hown,hAt,hnx⟩:=hrel
  have hsz:=hnx.size
  clear HO hb0
  by_cases h1:k<la
  ·obtain⟨x,HX⟩:∃ x:Nat,Hid (x=xs.getD k 0):=⟨_,rfl⟩
   have hx32:x<4294967296:=by rw[HX.out];exact dx k
   have cx:wr.cell? ⟨ba,oa+k,none⟩=some (.int .u64 (x:Int)):=by rw[HX.out];exact(hnx.cell (by exact hA.lt (by omega))).trans (hA.cell k (by omega))
   have hzb:x*2^t<9223372036854775808:=by
    have hp:2^t<=2^31:=Nat.pow_le_pow_right (by omega) (by omega)
    have:x*2^t<=4294967295*2^31:=Nat.mul_le_mul (by omega) hp
    omega
   have ez:=pV x t (by omega)
   obtain⟨z,hz⟩:∃ z,z=x*2^t:=⟨_,rfl⟩
   rw[<-hz]at ez hzb
   have HZ:Hid (z=xs.getD k 0*2^t):=by show _=_;rw[<-HX.out];exact hz
   have hzi:(z:Int)<9223372036854775808:=by omega
   have H2:=hide (IZ hAt.out HZ.out hzb)
   have ed:((cy:Int)+(z:Int))%4294967296=(((cy+z)%4294967296:Nat):Int):=by omega
   have ec:((cy:Int)+(z:Int))/4294967296=(((cy+z)/4294967296:Nat):Int):=by omega
   have hc2:(cy+z)/4294967296<4294967296:=by omega
   clear hz hzb
   generalize (cy+z)%4294967296=d at *
   generalize (cy+z)/4294967296=c2 at *
   go_wp2_with (at_builtin;refine wpList_append_fits _ rfl (.tmp 36) (.tmp 39) 32 rfl w.heap.size 41 i0 1 Tryz.underlying32 hi hz1 w.heap.size (s+k) cp _ rfl (hown.alloc _) ⟨wr.heap.size,0,none⟩ 1 1 [.int .u64 (d:Int)] rfl rfl (by exact aZ wr [.int .u64 (d:Int)] 41) (by intro u hu;simp at hu;subst hu;rfl) (by omega) ?_;intro w1 hown1 hgrow1)
   go_wp2
   go_roundw
   case rel=>exact⟨k+1,c2,os++[d],by omega,by first|rfl|exact congrArg (Value.int .u64) ec,by go_num,rfl,hc2,rL hown1,H2,(hnx.alloc hsz _).grown hgrow1 (by simp;omega) (fun j hj=>by cases hj;exact Nat.le_refl _)⟩
   case measure=>simp[intOf];omega
  ·obtain rfl:k=la:=by omega
   obtain⟨hd,hv⟩:=LX hAt.out (by omega)
   rw[<-ae HN]at hv
   have HV:=hide hv
   clear hv
   go_wp2_with (first|(at_builtin;refine wpList_append_fits _ rfl (.tmp 43) (.tmp 45) 32 rfl w.heap.size 41 i0 1 Tryz.underlying32 hi hz1 w.heap.size (s+k) cp _ rfl (hown.alloc _) ⟨wr.heap.size,0,none⟩ 1 1 [.int .u64 (cy:Int)] rfl rfl (by exact aZ wr [.int .u64 (cy:Int)] 41) (by intro u hu;simp at hu;subst hu;rfl) (by omega) ?_;intro w1 hown1 hgrow1)|fail)
   have ho:=rL hown1
   obtain⟨hl,hrep⟩:=aP ho
   have hb1:Below w.heap.size w w1:=(hnx.alloc hsz _).grown hgrow1 (by simp;omega) (fun j hj=>by cases hj;exact Nat.le_refl _)
   clear hown1 hgrow1
   go_wp2_with fail
   refine(jK _ _ _ _ _ _ _ hl (by omega) hrep hd).mono ?_
   rintro e w' ⟨v,rfl,hN,rfl⟩
   go_wp2
   go_ret
   exact⟨v,rfl,by rw[<-ae HV];exact hN,hb1⟩
end Go.Proofs.YtgcnhfgpflncaaaGreatDoor
