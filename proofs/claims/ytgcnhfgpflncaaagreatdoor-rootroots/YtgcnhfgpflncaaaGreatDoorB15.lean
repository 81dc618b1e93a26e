/- What may turn: all but some blocks is as it was. -/
import Derived.Test.YtgcnhfgpflncaaaGreatDoorB9
import Derived.Test.YtgcnhfgpflncaaaGreatDoorB14
namespace Go.Proofs.YtgcnhfgpflncaaaGreatDoor
open Go.RowKit
theorem Rep.touch{w w':World}{g oo:Nat}{s l m:Int}{ga:Option Addr}{b o cap:Nat}{xs:List Nat}(h:Rep w ga b o cap xs)(hM:Met w g oo s l m)(hT:Touch g oo 3 w w'):Rep w' ga b o cap xs:=
 ⟨h.head,h.room,fun j hj=>Touch.keep hM hT (h.cell j hj) (fun x e=>by cases e)⟩
structure Out(D:Nat->Prop)(w w':World):Prop where
 os:w'.os=w.os
 tape:w'.tape=w.tape
 output:w'.output=w.output
 size:w.heap.size<=w'.heap.size
 block:∀ k,k<w.heap.size->¬D k->w'.heap[k]?=w.heap[k]?
theorem Out.refl(D:Nat->Prop)(w:World):Out D w w:=⟨rfl,rfl,rfl,Nat.le_refl _,fun _ _ _=>rfl⟩
theorem Out.trans{D:Nat->Prop}{a b c:World}(h:Out D a b)(k:Out D b c):Out D a c:=
 ⟨k.os.trans h.os,k.tape.trans h.tape,k.output.trans h.output,Nat.le_trans h.size k.size,fun i hi hn=>(k.block i (Nat.lt_of_lt_of_le hi h.size) hn).trans (h.block i hi hn)⟩
theorem Out.mono{D E:Nat->Prop}{a b:World}(h:Out D a b)(hd:∀ k,D k->E k):Out E a b:=
 ⟨h.os,h.tape,h.output,h.size,fun i hi hn=>h.block i hi (fun x=>hn (hd i x))⟩
theorem Out.fresh{D E:Nat->Prop}{a b c:World}(h:Out D a b)(k:Out E b c)(hd:∀ i,E i->D i\/a.heap.size<=i):Out D a c:=
 ⟨k.os.trans h.os,k.tape.trans h.tape,k.output.trans h.output,Nat.le_trans h.size k.size,fun i hi hn=>(k.block i (Nat.lt_of_lt_of_le hi h.size) (fun x=>by rcases hd i x with y|y;exact hn y;omega)).trans (h.block i hi hn)⟩
theorem Out.of_below{D:Nat->Prop}{a b:World}(h:Below a.heap.size a b):Out D a b:=⟨h.os,h.tape,h.output,h.size,fun i hi _=>h.block i hi⟩
theorem Out.of_grown{g:Nat}{a b:World}(h:a.grownBy b (some g)):Out (·=g) a b:=⟨h.os,h.tape,h.output,h.size,fun i hi hn=>h.block i hi (fun e=>hn (Option.some.inj e))⟩
theorem Out.grown{g:Nat}{a b:World}(h:Out (·=g) a b):a.grownBy b (some g):=⟨h.os,h.tape,h.output,h.size,fun i hi hn=>h.block i hi (fun e=>hn (by rw[e]))⟩
theorem Out.next{D:Nat->Prop}{a b c:World}(h:Out D a b)(k:Below b.heap.size b c):Out D a c:=h.trans (Out.of_below k)
theorem Out.cell{D:Nat->Prop}{a b:World}(h:Out D a b){p:Addr}{v:Value}(hc:a.cell? p=some v)(hd:¬D p.block):b.cell? p=some v:=
 (World.cell?_of_block (h.block p.block (World.block_lt_of_cell? _ _ hc) hd)).trans hc
theorem Out.frozen{D:Nat->Prop}{a b:World}(h:Out D a b){p:Addr}{f:Bool}(hl:p.block<a.heap.size)(hc:a.frozen? p=f)(hd:¬D p.block):b.frozen? p=f:=
 (World.frozen?_of_block (h.block p.block hl hd)).trans hc
theorem Out.rep{D:Nat->Prop}{a b:World}(h:Out D a b){ga:Option Addr}{k o cap:Nat}{xs:List Nat}(r:Rep a ga k o cap xs)(hd:0<xs.length->¬D k):Rep b ga k o cap xs:=
 ⟨r.head,r.room,fun j hj=>h.cell (r.cell j hj) (hd (by omega))⟩
theorem Out.blk{D:Nat->Prop}{a b:World}(h:Out D a b){g:Nat}{zs:List Nat}(r:aB a g zs)(hd:¬D g):aB b g zs:=(h.block g r.lt hd).trans r
theorem Out.met{D:Nat->Prop}{a b:World}(h:Out D a b){g o:Nat}{s l m:Int}(r:Met a g o s l m)(hd:¬D g):Met b g o s l m:=
 ⟨h.cell r.c0 hd,h.cell r.c1 hd,h.cell r.c2 hd,h.frozen r.lt r.f0 hd,h.frozen r.lt r.f1 hd,h.frozen r.lt r.f2 hd⟩
theorem Out.newW{D:Nat->Prop}{a b:World}(h:Out D a b){B:Nat}{v:Value}{n:Nat}(r:ah B a v n)(hd:∀ k,D k->k<B):ah B b v n:=by
 obtain⟨xs,hc,hv,r|⟨g,ys,hg,rfl,hk,hl⟩⟩:=r
 ·exact⟨xs,hc,hv,Or.inl r⟩
 ·exact⟨xs,hc,hv,Or.inr ⟨g,ys,hg,rfl,h.blk hk (fun x=>by have:=hd g x;omega),hl⟩⟩
theorem Out.below{D:Nat->Prop}{B:Nat}{a b:World}(h:Out D a b)(hB:B<=a.heap.size)(hd:∀ k,D k->B<=k):Below B a b:=
 ⟨h.os,h.tape,h.output,h.size,fun i hi=>h.block i (by omega) (fun x=>by have:=hd i x;omega)⟩
end Go.Proofs.YtgcnhfgpflncaaaGreatDoor
