/- For every two tables t, u, every row of words a and every two whole numbers base, noughts the law RadixBack returns true: a row, cut to 80 words, printed to a base from 2 to 36 by one table and parsed by the other is itself, with up to 60 noughts ahead too; its text has no nought ahead; the document's examples hold; the package variables on the road read as the program's text lays them. -/
import Derived.Test.YtkdmippllpekfaaGreatDoorCards
import Derived.Test.YtkdmippllpekfaaGreatDoorTie
import Derived.Test.YtkdmippllpekfaaGreatDoorB19
import Derived.Test.YtkdmippllpekfaaGreatDoorB13
import Derived.Test.YtkdmippllpekfaaGreatDoorB35
import Derived.Test.YtkdmippllpekfaaGreatDoorCLRadixBack
namespace Go.Proofs.YtkdmippllpekfaaGreatDoor.radixBack
open Go.ChangeShapes Go.WideShapes Go.ChangeAt Go.RowKit
set_option linter.unusedVariables false
theorem own:ownKnob Tryz.prog.godebug=none:=by kernel_rfl
theorem laidOut:laidOutB Tryz.prog=true:=by kernel_rfl
theorem walk(T0:bJ)(T1:bJ)(a2:Option Addr)(qg qd:Nat)(a3:Int)(a4:Int)(w:World)(w2:∃b o xs,xs.length=qg/\cH w a2 b o qd xs/\∀j,xs.getD j 0<18446744073709551616)(w3:(Lit.int .i64 a3).wf=true)(w4:(Lit.int .i64 a4).wf=true)(hT:TB w):Calls Tryz.prog 5 #[T0.val,T1.val,.slice a2 qg qd,.int .i64 a3,.int .i64 a4] w fun e w'=>e=.returned (.bool true)/\Below w.heap.size w w':=by
 obtain⟨b2,o2,xs,hx,rx,kx⟩:=w2;obtain⟨l3,u3⟩:=bounds_i64 w3;obtain⟨l4,u4⟩:=bounds_i64 w4;exact Eb oG oF mH T0 T1 a2 b2 o2 qd qg xs w hx rx kx a3 (by omega) (by omega) a4 (by omega) (by omega) hT
set_option maxRecDepth 100000 in
theorem lifted(os:Os)(started:os.Started)(H:Type)(enc:TypeId×Value->H):ReturnsInHanded {} Tryz.checked os 5 .any (fun w args=>(Rows.radixBackSpec.pre enc Tryz.prog Tryz.f5 [] false w args/\laidMetH Tryz.prog gF w)/\sizedMet enc Tryz.prog Tryz.f5 (OpenSpec.ofChange Rows.radixBackSpec) false w args) (Rows.radixBackSpec.post enc Tryz.prog Tryz.f5 false true false false):=by
 refine returnsInHanded_of_change_and (C:=Tryz.checked) (X:=fun w _=>laidMetH Tryz.prog gF w) (fun _ _ _ hh h=>h.of_heap hh) own started (by kernel_rfl) Tryz.func5
  (ChangeSpec.witness_shaped (enc:=enc) (C:=Tryz.checked) (os:=os) (X:=fun w _=>laidMetH Tryz.prog gF w) false (World.doorLaid Tryz.prog 400 os) #[.agg #[.int .i64 0,.int .i64 0,.int .i64 0,.int .i64 0,.int .i64 0,.int .i64 0,.int .i64 0,.int .i64 0,.int .i64 0,.int .i64 0,.int .i64 0],.agg #[.int .i64 0,.int .i64 0,.int .i64 0,.int .i64 0,.int .i64 0,.int .i64 0,.int .i64 0,.int .i64 0,.int .i64 0,.int .i64 0,.int .i64 0],.slice none 0 0,.int .i64 0,.int .i64 0] 8 rfl (World.shaped_of_RefB (by kernel_rfl) (by kernel_rfl)) (by kernel_rfl) (by kernel_rfl) (by kernel_rfl) (qD os _)) ?_
 intro W base args ds gs before m9 hW _ _ hL _;have hval:∀(j:Nat) t v,Tryz.f5.params[j]?=some t->args[j]?=some v->Value.okWide Tryz.prog W .any base t v:=m9;have V4:=hW;obtain⟨p,q,Bu,hV,rfl,hfz,Ni⟩:=hW;have hA:DataW.TrodAll enc Tryz.prog W 0 (fun _=>true) true Tryz.f5.params.toList args.toList ds p:=Bu;rw[Tryz.params5]at hA hval;obtain⟨v0,vs0,d0,ds0,p0,q0,J4,rfl,rfl,h0,r0⟩:=trodAll_cons hA;obtain⟨v1,vs1,d1,ds1,p1,q1,rfl,rfl,rfl,h1,r1⟩:=trodAll_cons r0;obtain⟨v2,vs2,d2,ds2,p2,q2,rfl,rfl,rfl,h2,r2⟩:=trodAll_cons r1;obtain⟨v3,vs3,d3,ds3,p3,q3,rfl,rfl,rfl,h3,r3⟩:=trodAll_cons r2;obtain⟨v4,vs4,d4,ds4,p4,q4,rfl,rfl,rfl,h4,r4⟩:=trodAll_cons r3;obtain⟨rfl,rfl,rfl⟩:=trodAll_nil r4;obtain rfl:args=#[v0,v1,v2,v3,v4]:=by cases args;simp_all
 obtain⟨rfl,rfl⟩:=trodVars_none hV;obtain⟨T0,rfl⟩:=nn (hval 0 23 v0 rfl rfl) h0;have k0:=h0;have Us:∀x ∈ p0,x.block<W.heap.size:=by obtain⟨m,hm⟩:=k0;exact fM m _ _ _ hm
 obtain⟨T1,rfl⟩:=nn (hval 1 23 v1 rfl rfl) h1;have k1:=h1;have lt1:∀x ∈ p1,x.block<W.heap.size:=by obtain⟨m,hm⟩:=k1;exact fM m _ _ _ hm
 obtain⟨a2,qg,qd,rfl⟩:=okWide_slice bm (hval 2 24 v2 rfl rfl);have k2:=h2;have lt2:∀x ∈ p2,x.block<W.heap.size:=by obtain⟨m,hm⟩:=k2;exact fM m _ _ _ hm
 have w2:∃b o xs,xs.length=qg/\cH W a2 b o qd xs/\∀j,xs.getD j 0<18446744073709551616:=by
  obtain⟨fuel,hf⟩:=h2;rcases open_ints bm eG (by kernel_rfl) hf with⟨sH,_⟩|⟨x,l,c,zs,sH,_,hl,hm,hz,_,jK,WD⟩
  ·simp[Value.cells]at sH;obtain⟨rfl,rfl,rfl⟩:=sH;exact mS (zs:=[]) (.inl ⟨rfl,rfl,rfl,rfl⟩)
  ·simp[Value.cells]at sH;obtain⟨rfl,rfl,rfl⟩:=sH;exact mS (.inr ⟨_,rfl,hl,hm,by simpa using hz,jK,WD⟩)
 obtain⟨a3,rfl,rfl,rfl,w3⟩:=open_int gI (hval 3 3 v3 rfl rfl) h3;obtain⟨a4,rfl,rfl,rfl,w4⟩:=open_int gI (hval 4 3 v4 rfl rfl) h4;clear Bu m9;refine(walk T0 T1 a2 qg qd a3 a4 W w2 w3 w4 (mJ hL)).mono fun e W' ⟨he,sA⟩=>?_;subst he;exact⟨_,rfl,_,_,_,[],_,[],V4,trodAll_mk1 (Ih jz _),(trodAll_cons_mk (jF laidOut (by kernel_rfl) (cC (by kernel_rfl)) k0 sA Us) (trodAll_cons_mk (jF laidOut (by kernel_rfl) (cC (by kernel_rfl)) k1 sA lt1) (trodAll_cons_mk (jF laidOut (by kernel_rfl) (cC (by kernel_rfl)) k2 sA lt2) (trodAll_cons_mk (shut_int gI w3) (trodAll_cons_mk (shut_int gI w4) trodAll_mk0))))),rfl,sA.frame _,fun h=>by cases h⟩
theorem over:Rows.radixBackRow.holds Tryz.pinned (OpenSpec.ofChange Rows.radixBackSpec):=
 OpenClaim.holds_of_wide 5 Tryz.f5 rfl rfl rfl rfl rfl rfl rfl ⟨rfl,rfl,rfl,rfl,rfl⟩ rfl rfl rfl rfl rfl (by kernel_rfl) Tryz.func5 (by kernel_rfl)
  (cC (by kernel_rfl)) (by unfold Func.isWrapper;first|(rw[aW (by decide+kernel)];kernel_rfl)|(rw[aV (by decide+kernel)];exact⟨rfl,rfl⟩))
  (fun os started H enc _=>lifted os started H enc)
theorem proved:Rows.RadixBackSaid:=over
theorem plain(f:FuncId)(fn:Func)(hf:Tryz.pinned.checked.prog.funcNamed "ziggurat/zigguratlaw17.RadixBack" =some f)(J9:Tryz.pinned.checked.prog.funcs[f]?=some fn):false=Tryz.pinned.checked.prog.looks []/\∀(j:Nat) t,fn.params[j]?=some t->Tryz.pinned.checked.prog.wantsStandIn t=false:=by
 obtain rfl:f=5:=aZ ((show Tryz.prog.funcNamed "ziggurat/zigguratlaw17.RadixBack" =some 5 by kernel_rfl).symm.trans hf) |>.symm;obtain rfl:fn=Tryz.f5:=(aZ (Tryz.func5.symm.trans J9)).symm;refine⟨by kernel_rfl,fun j t ht=>?_⟩;rw[Tryz.params5]at ht;have hm:t ∈ [23,24,3]:=by
  have:=fD ht;simp at this ⊢
  first|omega|grind
 have lJ:([23,24,3].all fun u=> !Tryz.prog.wantsStandIn u)=true:=by kernel_rfl
 exact(show Tryz.prog.wantsStandIn t=false by simpa using fO.1 lJ t hm)
theorem card:Rows.RadixBackCardSaid:=
 Claim7.holds_tied_plain_at .later [] _ _ _ _ proved (fun _ h=>by cases h) (by kernel_rfl) (fun _ h=>by cases h) radixBack_row_tie rfl ⟨rfl,rfl⟩ (by kernel_rfl) rfl plain (by kernel_rfl)
end Go.Proofs.YtkdmippllpekfaaGreatDoor.radixBack
namespace Go.Proofs.YtkdmippllpekfaaGreatDoor
theorem radixBack_holds:Rows.RadixBackCardSaid:=radixBack.card
#print axioms radixBack_holds
end Go.Proofs.YtkdmippllpekfaaGreatDoor
