/- For every table t, every row of words a and every word base the law RadixDigits returns true: of the row, cut to 10 words (to 3 where base is from 2 to 15), Digits answers the reference's digits, ErrArg with nothing beside it where base is below 2; the document's examples hold; the package variables on the road read as the program's text lays them. -/
import Derived.Test.YtkdmippllpekfaaGreatDoorCards
import Derived.Test.YtkdmippllpekfaaGreatDoorTie
import Derived.Test.YtkdmippllpekfaaGreatDoorB19
import Derived.Test.YtkdmippllpekfaaGreatDoorB13
import Derived.Test.YtkdmippllpekfaaGreatDoorB35
import Derived.Test.YtkdmippllpekfaaGreatDoorCLRadixDigits
namespace Go.Proofs.YtkdmippllpekfaaGreatDoor.radixDigits
open Go.ChangeShapes Go.WideShapes Go.ChangeAt Go.RowKit
set_option linter.unusedVariables false
theorem own:ownKnob Tryz.prog.godebug=none:=by kernel_rfl
theorem laidOut:laidOutB Tryz.prog=true:=by kernel_rfl
theorem walk(T0:bJ)(a1:Option Addr)(xF yM:Nat)(a2:Int)(w:World)(w1:∃b o xs,xs.length=xF/\cH w a1 b o yM xs/\∀j,xs.getD j 0<18446744073709551616)(w2:(Lit.int .u64 a2).wf=true)(hT:TB w):Calls Tryz.prog 6 #[T0.val,.slice a1 xF yM,.int .u64 a2] w fun e w'=>e=.returned (.bool true)/\Below w.heap.size w w':=by
 obtain⟨b1,o1,xs,hx,rx,kx⟩:=w1;obtain⟨l9,u9⟩:=bounds_u64 w2;obtain⟨y,rfl⟩:=dP l9;exact Aj oG oF mH tY Cz T0 a1 b1 o1 yM xF xs w hx rx kx y (by omega) hT
set_option maxRecDepth 100000 in
theorem lifted(os:Os)(started:os.Started)(H:Type)(enc:TypeId×Value->H):ReturnsInHanded {} Tryz.checked os 6 .any (fun w args=>(Rows.radixDigitsSpec.pre enc Tryz.prog Tryz.f6 [] false w args/\laidMetH Tryz.prog gF w)/\sizedMet enc Tryz.prog Tryz.f6 (OpenSpec.ofChange Rows.radixDigitsSpec) false w args) (Rows.radixDigitsSpec.post enc Tryz.prog Tryz.f6 false true false false):=by
 refine returnsInHanded_of_change_and (C:=Tryz.checked) (X:=fun w _=>laidMetH Tryz.prog gF w) (fun _ _ _ hh h=>h.of_heap hh) own started (by kernel_rfl) Tryz.func6
  (ChangeSpec.witness_shaped (enc:=enc) (C:=Tryz.checked) (os:=os) (X:=fun w _=>laidMetH Tryz.prog gF w) false (World.doorLaid Tryz.prog 400 os) #[.agg #[.int .i64 0,.int .i64 0,.int .i64 0,.int .i64 0,.int .i64 0,.int .i64 0,.int .i64 0,.int .i64 0,.int .i64 0,.int .i64 0,.int .i64 0],.slice none 0 0,.int .u64 0] 8 rfl (World.shaped_of_RefB (by kernel_rfl) (by kernel_rfl)) (by kernel_rfl) (by kernel_rfl) (by kernel_rfl) (qD os _)) ?_
 intro W base args ds gs before m9 hW _ _ hL _;have hval:∀(j:Nat) t v,Tryz.f6.params[j]?=some t->args[j]?=some v->Value.okWide Tryz.prog W .any base t v:=m9;have V4:=hW;obtain⟨p,q,Bu,hV,rfl,hfz,Ni⟩:=hW;have hA:DataW.TrodAll enc Tryz.prog W 0 (fun _=>true) true Tryz.f6.params.toList args.toList ds p:=Bu;rw[Tryz.params6]at hA hval;obtain⟨v0,vs0,d0,ds0,p0,q0,J4,rfl,rfl,h0,r0⟩:=trodAll_cons hA;obtain⟨v1,vs1,d1,ds1,p1,q1,rfl,rfl,rfl,h1,r1⟩:=trodAll_cons r0;obtain⟨v2,vs2,d2,ds2,p2,q2,rfl,rfl,rfl,h2,r2⟩:=trodAll_cons r1;obtain⟨rfl,rfl,rfl⟩:=trodAll_nil r2;obtain rfl:args=#[v0,v1,v2]:=by cases args;simp_all
 obtain⟨rfl,rfl⟩:=trodVars_none hV;obtain⟨T0,rfl⟩:=nn (hval 0 23 v0 rfl rfl) h0;have k0:=h0;have Us:∀x ∈ p0,x.block<W.heap.size:=by obtain⟨m,hm⟩:=k0;exact fM m _ _ _ hm
 obtain⟨a1,xF,yM,rfl⟩:=okWide_slice bm (hval 1 24 v1 rfl rfl);have k1:=h1;have lt1:∀x ∈ p1,x.block<W.heap.size:=by obtain⟨m,hm⟩:=k1;exact fM m _ _ _ hm
 have w1:∃b o xs,xs.length=xF/\cH W a1 b o yM xs/\∀j,xs.getD j 0<18446744073709551616:=by
  obtain⟨fuel,hf⟩:=h1;rcases open_ints bm eG (by kernel_rfl) hf with⟨sH,_⟩|⟨x,l,c,zs,sH,_,hl,hm,hz,_,jK,WD⟩
  ·simp[Value.cells]at sH;obtain⟨rfl,rfl,rfl⟩:=sH;exact mS (zs:=[]) (.inl ⟨rfl,rfl,rfl,rfl⟩)
  ·simp[Value.cells]at sH;obtain⟨rfl,rfl,rfl⟩:=sH;exact mS (.inr ⟨_,rfl,hl,hm,by simpa using hz,jK,WD⟩)
 obtain⟨a2,rfl,rfl,rfl,w2⟩:=open_int eG (hval 2 47 v2 rfl rfl) h2;clear Bu m9;refine(walk T0 a1 xF yM a2 W w1 w2 (mJ hL)).mono fun e W' ⟨he,sA⟩=>?_;subst he;exact⟨_,rfl,_,_,_,[],_,[],V4,trodAll_mk1 (Ih jz _),(trodAll_cons_mk (jF laidOut (by kernel_rfl) (cC (by kernel_rfl)) k0 sA Us) (trodAll_cons_mk (jF laidOut (by kernel_rfl) (cC (by kernel_rfl)) k1 sA lt1) (trodAll_cons_mk (shut_int eG w2) trodAll_mk0))),rfl,sA.frame _,fun h=>by cases h⟩
theorem over:Rows.radixDigitsRow.holds Tryz.pinned (OpenSpec.ofChange Rows.radixDigitsSpec):=
 OpenClaim.holds_of_wide 6 Tryz.f6 rfl rfl rfl rfl rfl rfl rfl ⟨rfl,rfl,rfl,rfl,rfl⟩ rfl rfl rfl rfl rfl (by kernel_rfl) Tryz.func6 (by kernel_rfl)
  (cC (by kernel_rfl)) (by unfold Func.isWrapper;first|(rw[aW (by decide+kernel)];kernel_rfl)|(rw[aV (by decide+kernel)];exact⟨rfl,rfl⟩))
  (fun os started H enc _=>lifted os started H enc)
theorem proved:Rows.RadixDigitsSaid:=over
theorem plain(f:FuncId)(fn:Func)(hf:Tryz.pinned.checked.prog.funcNamed "ziggurat/zigguratlaw17.RadixDigits" =some f)(J9:Tryz.pinned.checked.prog.funcs[f]?=some fn):false=Tryz.pinned.checked.prog.looks []/\∀(j:Nat) t,fn.params[j]?=some t->Tryz.pinned.checked.prog.wantsStandIn t=false:=by
 obtain rfl:f=6:=aZ ((show Tryz.prog.funcNamed "ziggurat/zigguratlaw17.RadixDigits" =some 6 by kernel_rfl).symm.trans hf) |>.symm;obtain rfl:fn=Tryz.f6:=(aZ (Tryz.func6.symm.trans J9)).symm;refine⟨by kernel_rfl,fun j t ht=>?_⟩;rw[Tryz.params6]at ht;have hm:t ∈ [23,24,47]:=by
  have:=fD ht;simp at this ⊢
  first|omega|grind
 have lJ:([23,24,47].all fun u=> !Tryz.prog.wantsStandIn u)=true:=by kernel_rfl
 exact(show Tryz.prog.wantsStandIn t=false by simpa using fO.1 lJ t hm)
theorem card:Rows.RadixDigitsCardSaid:=
 Claim7.holds_tied_plain_at .later [] _ _ _ _ proved (fun _ h=>by cases h) (by kernel_rfl) (fun _ h=>by cases h) radixDigits_row_tie rfl ⟨rfl,rfl⟩ (by kernel_rfl) rfl plain (by kernel_rfl)
end Go.Proofs.YtkdmippllpekfaaGreatDoor.radixDigits
namespace Go.Proofs.YtkdmippllpekfaaGreatDoor
theorem radixDigits_holds:Rows.RadixDigitsCardSaid:=radixDigits.card
#print axioms radixDigits_holds
end Go.Proofs.YtkdmippllpekfaaGreatDoor
