/- byMany of divs: a division by a row of two words at least. -/
import Derived.Test.YtpdpnomocbehkaaGreatDoorB35
import Derived.Test.YtpdpnomocbehkaaGreatDoorB39
import Derived.Test.YtpdpnomocbehkaaGreatDoorB4
import Derived.Test.YtpdpnomocbehkaaGreatDoorB30
import Derived.Stop.RegionWithIn
import Derived.Test.YtpdpnomocbehkaaGreatDoorB32
import Derived.Deep.RegionHeld3
import Derived.Test.YtpdpnomocbehkaaGreatDoorB5
namespace Go.Proofs.YtpdpnomocbehkaaGreatDoor
open Go.RowKit Go.Shelf

attribute [local go_sem] Oper.semAt_some
set_option linter.unusedSimpArgs false

set_option maxRecDepth 100000 in
set_option maxHeartbeats 3200000 in
theorem byMany_any (w:World) (ga:Option Addr) (ba oa ca n:Nat) (us:List Nat) (gb:Option Addr) (bb ob cb m M:Nat) (vs:List Nat)
    (hA:Rep w ga ba oa ca us) (cA:WCan us) (hal:us.length = n) (hB:Rep w gb bb ob cb vs) (cB:WCan vs) (hbl:vs.length = M) (hM:M = m + 2) (hmn:M <= n) (hn:n <= 16384):
    Calls Tryz.prog 60 #[.slice ga n ca,.slice gb M cb] w fun e w' => ∃ q r gq gr,e = .returned (.tuple #[q,r]) /\ NewB gq (gq + 1) w' q (wval us / wval vs) /\ NewB gr (gr + 1) w' r (wval us % wval vs) /\ (gq ≠ gr /\ w.heap.size <= gq /\ w.heap.size <= gr) /\ Below w.heap.size w w':=by
  obtain rfl:=hB.head (by omega)
  obtain ⟨P0,hP0⟩:∃ P0,w.heap.size = P0:=⟨_,rfl⟩
  obtain ⟨m1,hm1⟩:∃ m1,m1 = m + 1:=⟨_,rfl⟩
  obtain ⟨t,ht⟩:∃ t,t = vs.getD m1 0:=⟨_,rfl⟩
  have ht0:0 < t:=by have:=cB.2 (by omega); rw [hbl,show M - 1 = m1 by omega] at this; omega
  have ht1:t < 18446744073709551616:=by rw [ht]; exact cB.1 m1
  have b1:=hB.cell m1 (by omega)
  rw [<- ht] at b1
  have HA:=hide hA
  have HB:=hide hB
  have CLz:=hide (fun W => lz_any (t:Int) W (by omega) (by omega))
  have CSb:Hid (∀ W (s:Nat),s <= 63 -> Below w.heap.size w W -> Calls Tryz.prog 53 #[.slice (some ⟨bb,ob,none⟩) M cb,.int .i64 (s:Int)] W fun e w' => ∃ r,e = .returned r /\ NewW W.heap.size w' r (wval vs * 2 ^ s) /\ Below W.heap.size W w'):=fun W s hs b =>
    shl_w W _ (s:Int) (wval vs) s (by omega) ⟨_,_,_,_,vs,by rw [hbl],(hB.next b),cB.1,rfl,by omega⟩
  have CSa:Hid (∀ W (s:Nat),s <= 63 -> Below w.heap.size w W -> Calls Tryz.prog 53 #[.slice ga n ca,.int .i64 (s:Int)] W fun e w' => ∃ r,e = .returned r /\ NewW W.heap.size w' r (wval us * 2 ^ s) /\ Below W.heap.size W w'):=fun W s hs b =>
    shl_w W _ (s:Int) (wval us) s (by omega) ⟨_,_,_,_,us,by rw [hal],(hA.next b),cA.1,rfl,by omega⟩
  have i1:(M:Int) - 1 = (m1:Int):=by omega
  have k1:IntKind.i64.wrap (m1:Int) = (m1:Int):=by rw [IntKind.wrap_i64]; omega
  have j1:m1 < M:=by omega
  have bx:Below w.heap.size w ((w.alloc (.cells #[.slice none 0 0] 29)).alloc (.cells #[.int .i64 (M:Int)] 3)):=((Below.refl _ w).alloc (Nat.le_refl _) _).alloc (by simp) _
  have xq:=(Boxed.new w 29 (.slice none 0 0)).alloc (.cells #[.int .i64 (M:Int)] 3)
  have xm:=Boxed.new (w.alloc (.cells #[.slice none 0 0] 29)) 3 (.int .i64 (M:Int))
  rw [World.size_alloc,hP0] at xm
  rw [hP0] at xq
  obtain ⟨W1,hW1⟩:∃ W1,(w.alloc (.cells #[.slice none 0 0] 29)).alloc (.cells #[.int .i64 (M:Int)] 3) = W1:=⟨_,rfl⟩
  rw [hW1] at bx xq xm
  replace b1:=(bx.cell (p:=⟨bb,ob + m1,none⟩) (World.block_lt_of_cell? _ _ b1)).trans b1
  have cm:=xm.cell
  have BX:=hide bx
  have HM:=hide hM
  have HM1:=hide hm1
  have HT:=hide ht
  have Mb:M <= 16384:=by omega
  clear hM hm1 ht hA hB
  obtain ⟨n1,hn1⟩:∃ n1,n1 = n + 1:=⟨_,rfl⟩
  obtain ⟨nd,hnd⟩:∃ nd,nd = n - M:=⟨_,rfl⟩
  obtain ⟨N,hN⟩:∃ N,N = nd + 1:=⟨_,rfl⟩
  have en1:(n:Int) + 1 = (n1:Int):=by omega
  have en2:IntKind.i64.wrap (n1:Int) = (n1:Int):=by rw [IntKind.wrap_i64]; omega
  have en3:(n:Int) - (M:Int) = (nd:Int):=by omega
  have en4:IntKind.i64.wrap (nd:Int) = (nd:Int):=by rw [IntKind.wrap_i64]; omega
  have en5:(nd:Int) + 1 = (N:Int):=by omega
  have en6:IntKind.i64.wrap (N:Int) = (N:Int):=by rw [IntKind.wrap_i64]; omega
  have hmk1:=make_nat n1 n1 (n1:Int) rfl rfl (by omega)
  have hmk2:=make_nat N N (N:Int) rfl rfl (by omega)
  have HN1:=hide hn1
  have HND:=hide hnd
  have HN:=hide hN
  have Nb:N <= 16384 /\ 0 < N /\ n1 <= 16385:=by omega
  clear hn1 hnd hN
  refine (callsIn_wide (n:=4)).1 ?_
  refine callsIn_of_wp_marks Tryz.func60 rfl trivial ?_ rfl
  simp only [Tryz.ntmps60,List.size_toArray,List.length_cons,List.length_nil,Nat.reduceAdd,Nat.reduceSub,Array.replicate_succ,Array.replicate_zero,List.push_toArray,List.append_toArray,List.nil_append,List.cons_append]
  gi_wp2_with (refine ⟨trivial,?_⟩; gi_at_call 51; refine (callsIn_wide.2 (unhide CLz _)).mono ?_; rintro e W2 ⟨s,rfl,hs,hs1,hs2,hw⟩; obtain rfl:=hw.symm; clear hw)
  have HS1:=hide hs1
  have HS2:=hide hs2
  clear hs1 hs2
  refine ⟨trivial,?_⟩
  refine (callsIn_wide.2 (unhide CSb _ s hs bx)).mono ?_
  rintro e W3 ⟨rd,rfl,nd,b3⟩
  have cm:=(boxed_next xm b3).cell
  obtain ⟨gd,bd,cd,ds,rfl,rD,cD,vD,lD⟩:=nd.rep
  obtain ⟨ldd,htd⟩:=moved_top (m:=m1) cB (by rw [hbl,unhide HM,unhide HM1]) cD hs (by have:=unhide HS1; rw [unhide HT] at this; simpa using this) (by have:=unhide HS2; rw [unhide HT] at this; simpa using this) vD
  replace ldd:ds.length = M:=by rw [ldd,unhide HM1,unhide HM]
  rw [ldd]
  obtain rfl:=rD.head (by omega)
  obtain ⟨v,hv⟩:∃ v,v = inv2 (ds.getD (m + 1) 0 * 18446744073709551616 + ds.getD m 0):=⟨_,rfl⟩
  have CD:=hide (divisorOf_any W3 _ bd 0 cd m M v ds ldd (unhide HM) (by omega) rD cD.1 (by rw [unhide HM1] at htd; exact htd) hv)
  have RD:=hide rD
  have HV:=hide hv
  have LD:=hide (lD (by omega))
  clear rD hv nd lD
  gi_wp2
  refine ⟨trivial,?_⟩
  refine (callsIn_wide.2 (unhide CD)).mono ?_
  rintro e W4 ⟨rfl,b4⟩
  obtain ⟨P1,hP1⟩:∃ P1,W4.heap.size = P1:=⟨_,rfl⟩
  obtain ⟨W5,hW5⟩:∃ W5,((W4.alloc (.cells #[.slice (some ⟨bd,0,none⟩) M cd,.int .u64 (v:Int)] 129)).alloc (.cells (zlist n1).toArray 90)).alloc (.cells #[.slice (some ⟨P1 + 1,0,none⟩) n1 n1] 29) = W5:=⟨_,rfl⟩
  have sz5:W5.heap.size = P1 + 1 + 1 + 1:=by rw [<- hW5]; simp [hP1]
  have b5:Below W4.heap.size W4 W5:=by rw [<- hW5]; exact (((Below.refl _ W4).alloc (Nat.le_refl _) _).alloc (by simp) _).alloc (by simp; omega) _
  have xd:Hid (W5.heap[P1]? = some (.cells #[.slice (some ⟨bd,0,none⟩) M cd,.int .u64 (v:Int)] 129 (0,0))):=by
    show _ = _
    have h1:=heap_alloc_new W4 (.cells #[.slice (some ⟨bd,0,none⟩) M cd,.int .u64 (v:Int)] 129)
    have h2:Below (W4.heap.size + 1) (W4.alloc (.cells #[.slice (some ⟨bd,0,none⟩) M cd,.int .u64 (v:Int)] 129)) W5:=by rw [<- hW5]; exact ((Below.refl _ _).alloc (by simp) _).alloc (by simp) _
    rw [<- hP1]
    exact (h2.block W4.heap.size (by omega)).trans h1
  have xr:Hid (Blk W5 (P1 + 1) (List.replicate n1 0)):=by
    have h1:=heap_alloc_new (W4.alloc (.cells #[.slice (some ⟨bd,0,none⟩) M cd,.int .u64 (v:Int)] 129)) (.cells (zlist n1).toArray 90)
    have h2:Below (W4.heap.size + 1 + 1) ((W4.alloc (.cells #[.slice (some ⟨bd,0,none⟩) M cd,.int .u64 (v:Int)] 129)).alloc (.cells (zlist n1).toArray 90)) W5:=by rw [<- hW5]; exact (Below.refl _ _).alloc (by simp) _
    rw [World.size_alloc] at h1
    show _ = _
    rw [<- hP1]
    exact (h2.block (W4.heap.size + 1) (by omega)).trans h1
  have xb:Boxed W5 (P1 + 1 + 1) 29 (.slice (some ⟨P1 + 1,0,none⟩) n1 n1):=by
    have h1:=Boxed.new ((W4.alloc (.cells #[.slice (some ⟨bd,0,none⟩) M cd,.int .u64 (v:Int)] 129)).alloc (.cells (zlist n1).toArray 90)) 29 (.slice (some ⟨P1 + 1,0,none⟩) n1 n1)
    rw [World.size_alloc,World.size_alloc,hW5,hP1] at h1
    exact h1
  have b35:Below W3.heap.size W3 W5:=b4.trans (b5.mono b4.size)
  have b15:Below W1.heap.size W1 W5:=b3.trans (b35.mono b3.size)
  have bw5:Below w.heap.size w W5:=bx.trans (b15.mono bx.size)
  have xq5:=boxed_next xq b15
  have xm5:=boxed_next xm b15
  have RD5:=hide ((unhide RD).next b35)
  have CSA:=hide (unhide CSa W5.drew s hs (bw5.trans ((Below.refl _ _).drew)))
  have HX:Hid (∀ W,Below W5.heap.size W5 W -> W.cell? ⟨P1 + 1 + 1,0,none⟩ = some (.slice (some ⟨P1 + 1,0,none⟩) n1 n1)):=fun W b => (boxed_next xb b).cell
  have HSm:=hide (moved_small cA.1 hal hs)
  have cxb:=xb.cell
  clear CD CSa CSb CLz b1 cm
  gi_wp2
  refine wpIn_wide.2 ?_
  have bl:Below W5.heap.size W5 W5.drew:=(Below.refl _ _).drew
  go_region_held3 (fun w' => w'.cell? ⟨P1 + 1 + 1,0,none⟩ = some (.slice (some ⟨P1 + 1,0,none⟩) n1 n1)) (first | (exact unhide HX _ bl) | (assumption) | go_keep) (first
    | (go_at_call 53; with_reducible refine (unhide CSA).mono ?_; rintro e W6 ⟨ra,rfl,na,b6⟩; have bl:=bl.trans (b6.mono bl.size); obtain ⟨ga2,ba2,ca2,zs0,rfl,rA2,cA2,vA2,lA2⟩:=na.rep; have HL2:=hide (wlen_le cA2 (by rw [vA2]; exact unhide HSm)); obtain ⟨W7,hrun,xr7,o7⟩:=copy_run W6 (P1 + 1) n1 ga2 ba2 0 ca2 _ zs0 (Blk.next (unhide xr) bl) rA2 rfl (by rw [unhide HN1]; exact unhide HL2); have cxb7:=o7.cell (unhide HX _ bl) (by show ¬ P1 + 1 + 1 = P1 + 1; omega)))
  obtain ⟨z0,hz0⟩:∃ z0,z0 = zs0 ++ List.replicate (n1 - zs0.length) 0:=⟨_,rfl⟩
  rw [<- hz0] at xr7
  have dz0:Hid (WDig z0):=by show WDig z0; rw [hz0]; exact wDig_pad cA2.1 _
  have vz0:Hid (wval z0 = wval us * 2 ^ s):=by show _ = _; rw [hz0,wval_pad,vA2]
  have lz0:Hid (z0.length = n1):=by show _ = _; rw [hz0]; have:=unhide HL2; have:=unhide HN1; simp; omega
  have XR7:=hide xr7
  have l6:Hid (W5.heap.size <= W7.heap.size):=Nat.le_trans bl.size o7.size
  have hl7:=unhide l6
  rw [sz5] at hl7
  have ob7:Out (· = P1 + 1) W5 W7:=(Out.of_below bl).trans o7
  have lt0:P0 + 1 < P1:=by have:=xm.lt; have:=b3.size; have:=b4.size; omega
  have xq7:=boxed_away xq5 ob7 (by show ¬ P0 = P1 + 1; omega)
  have xm7:=boxed_away xm5 ob7 (by show ¬ P0 + 1 = P1 + 1; omega)
  have xb7:=boxed_away xb ob7 (by show ¬ P1 + 1 + 1 = P1 + 1; omega)
  have xd7:Hid (W7.heap[P1]? = some (.cells #[.slice (some ⟨bd,0,none⟩) M cd,.int .u64 (v:Int)] 129 (0,0))):=(ob7.block P1 (by omega) (by show ¬ P1 = P1 + 1; omega)).trans (unhide xd)
  have bdl:bd < P1:=by have:=(unhide RD).lt (by omega); have:=b4.size; omega
  have RD7:=hide (ob7.rep (unhide RD5) (fun _ => by show ¬ bd = P1 + 1; omega))
  have bw7:Below w.heap.size w W7:=bw5.trans (ob7.below bw5.size (fun k hk => by rw [hk,hP0]; omega))
  have BW7:=hide bw7
  obtain ⟨P2,hP2⟩:∃ P2,W7.heap.size = P2:=⟨_,rfl⟩
  obtain ⟨W8,hW8⟩:∃ W8,W7.alloc (.cells (zlist N).toArray 90) = W8:=⟨_,rfl⟩
  have b8:Below W7.heap.size W7 W8:=by rw [<- hW8]; exact (Below.refl _ _).alloc (Nat.le_refl _) _
  have sz8:W8.heap.size = P2 + 1:=by rw [<- hW8]; simp [hP2]
  have xq8:=boxed_next xq7 b8
  have r8:Blk W8 P2 (List.replicate N 0):=by rw [<- hW8,<- hP2]; exact heap_alloc_new W7 _
  obtain ⟨W9,hW9⟩:∃ W9,W8.setCell ⟨P0,0,none⟩ (.slice (some ⟨P2,0,none⟩) N N) = W9:=⟨_,rfl⟩
  have o9:Out (· = P0) W8 W9:=by rw [<- hW9]; exact Out.of_grown (grown_set _ _ _ _)
  have xq9:Boxed W9 P0 29 (.slice (some ⟨P2,0,none⟩) N N):=by rw [<- hW9]; exact xq8.set _
  have sz9:W9.heap.size = P2 + 1:=by rw [<- hW9,<- sz8]; simp
  obtain ⟨WB,hWB⟩:∃ WB,W9.alloc (.cells #[.slice (some ⟨P2,0,none⟩) N N] 29) = WB:=⟨_,rfl⟩
  have b10:Below W9.heap.size W9 WB:=by rw [<- hWB]; exact (Below.refl _ _).alloc (Nat.le_refl _) _
  have szB:WB.heap.size = P2 + 1 + 1:=by rw [<- hWB]; simp [sz9]
  have xsB:Boxed WB (P2 + 1) 29 (.slice (some ⟨P2,0,none⟩) N N):=by have:=Boxed.new W9 29 (.slice (some ⟨P2,0,none⟩) N N); rw [hWB,sz9] at this; exact this
  have oB:Out (· = P0) W7 WB:=((Out.of_below b8).trans o9).trans (Out.of_below b10)
  have xqB:=boxed_next xq9 b10
  have xmB:=boxed_away xm7 oB (by show ¬ P0 + 1 = P0; omega)
  have xbB:=boxed_away xb7 oB (by show ¬ P1 + 1 + 1 = P0; omega)
  have xdB:Hid (WB.heap[P1]? = some (.cells #[.slice (some ⟨bd,0,none⟩) M cd,.int .u64 (v:Int)] 129 (0,0))):=(oB.block P1 (by omega) (by show ¬ P1 = P0; omega)).trans (unhide xd7)
  have rB:Hid (Blk WB P2 (List.replicate N 0)):=(o9.blk r8 (by show ¬ P2 = P0; omega)).next b10
  have zB:Hid (Blk WB (P1 + 1) z0):=oB.blk (unhide XR7) (by show ¬ P1 + 1 = P0; omega)
  have RB:=hide (oB.rep (unhide RD7) (fun _ => by show ¬ bd = P0; have:=unhide LD; have:=xm.lt; omega))
  have BWB:=hide (bw7.trans (oB.below bw7.size (fun k hk => by rw [hk,hP0]; exact Nat.le_refl _)))
  have cq8:=xq8.cell
  have fq8:=xq8.frozen
  have cq9:=xq9.cell
  have cm8:=(boxed_next xm7 b8).cell
  have cm7:=xm7.cell
  have CBk:=hide (backw_any 3 (some ⟨P2,0,none⟩) N N W9)
  rw [sz9,hWB] at CBk
  clear xr7 hz0 hrun cxb7 cxb HX CSA na rA2 cA2 vA2 lA2 o7 bl xb xq5 xm5 xq xm b15 b35 b5 b4 b3 bx hW5 hW1 hmk1 HSm sz5 bw5 b6 bw7
  gi_wp2
  refine ⟨trivial,?_⟩
  refine (unhide CBk).mono ?_
  rintro e W10 ⟨rfl,hx⟩
  obtain rfl:=hx.symm
  clear hx CBk
  gi_wp2
  have HS:Hid (∀ W,Out (fun j => j = P1 + 1 \/ j = P2) WB W -> (fun w' => w'.cell? ⟨P0,0,none⟩ = some (.slice (some ⟨P2,0,none⟩) N N) /\ w'.cell? ⟨P1,0,none⟩ = some (.slice (some ⟨bd,0,none⟩) M cd) /\ w'.cell? ⟨P1,1,none⟩ = some (.int .u64 (v:Int)) /\ w'.cell? ⟨P1 + 1 + 1,0,none⟩ = some (.slice (some ⟨P1 + 1,0,none⟩) n1 n1) /\ w'.cell? ⟨P0 + 1,0,none⟩ = some (.int .i64 (M:Int))) W):=fun W o => ⟨(boxed_away xqB o (by omega)).cell,o.cell (cell_of_row _ _ 0 _ _ (0,0) (unhide xdB)) (by show ¬ (P1 = P1 + 1 \/ P1 = P2); omega),o.cell (cell_of_row _ _ 1 _ _ (0,0) (unhide xdB)) (by show ¬ (P1 = P1 + 1 \/ P1 = P2); omega),(boxed_away xbB o (by omega)).cell,(boxed_away xmB o (by omega)).cell⟩
  have hDp:0 < wval ds:=by
    have h1:=wval_ge cD (by omega)
    have:=wpow_pos (ds.length - 1)
    omega
  have I0:Hid (QI WB (P1 + 1) P2 N n1 M (wval ds) z0 [] WB):=⟨Out.refl _ _,z0,List.replicate N 0,unhide zB,unhide lz0,unhide dz0,unhide rB,by simp,wDig_noughts N,fun _ => by
    rw [List.length_nil,Nat.sub_zero]
    refine qt_start (by rw [unhide lz0,unhide HN1,unhide HN,unhide HND]; omega) (by simp) ?_
    have:=qt_first (z0:=z0) (n:=n) (m:=m1) cB (by rw [hbl,unhide HM,unhide HM1]) (by have:=wval_lt_pow cA.1; rw [hal] at this; exact this) (unhide vz0) (by have:=unhide HM1; have:=unhide HM; omega)
    rw [show n - m1 = N by have:=unhide HM1; have:=unhide HM; have:=unhide HN; have:=unhide HND; omega,<- vD] at this
    exact this⟩
  have lP2:P1 + 1 + 1 < P2:=by omega
  have HT0:Hid (∀ (W:World) (zs:List Nat) (i:Nat),i < N -> Out (fun j => j = P1 + 1 \/ j = P2) WB W -> Blk W (P1 + 1) zs -> zs.length = n1 -> WDig zs -> Calls Tryz.prog 90 #[.agg #[.slice (some ⟨bd,0,none⟩) M cd,.int .u64 (v:Int)],.slice (some ⟨P1 + 1,i,none⟩) (M + 1) (n1 - i)] W.drew (TfAns W.drew (P1 + 1) i M (wval ds) zs)):=fun W zs i hi o k1 l1 d1 =>
    takeFrom_any2 W.drew (P1 + 1) i (M + 1) (n1 - i) bd 0 cd m M v (wval ds) _ zs ds (by rw [l1]; have:=unhide HN; have:=unhide HND; have:=unhide HN1; omega) ldd (unhide HM) (Nat.le_refl _) (by have:=unhide HN; have:=unhide HND; omega) (Blk.drewN k1 1) d1 (Rep.drew (o.rep (unhide RB) (fun _ => by omega))) cD.1 (by rw [unhide HM1] at htd; exact htd) (unhide HV) rfl (by omega)
  have HNn:Hid (N < n1 /\ N + M = n1):=by have:=unhide HN; have:=unhide HND; have:=unhide HN1; show _ /\ _; omega
  clear hW8 hW9 hWB b8 o9 b10 oB sz8 sz9 r8 xq8 xq9 cq8 fq8 cq9 cm8 cm7 xm7 xb7 xq7 xd7 XR7 RD7 hmk2 ob7 hl7
  refine wpIn_rangeFunc_ownG rfl (by omega) (gf:=107) (lb:=#[.pointer (some ⟨P2 + 1,0,none⟩)]) rfl trivial (enters_of Tryz.func107 (by kernel_rfl) rfl)
    (back_stops 3 (by omega) (P2 + 1) P2 N N (by omega) WB xsB.lt xsB.cell (List.replicate N 0) (by simp) (unhide rB)) keepQ_t (keepQ_b xsB.lt (unhide rB).lt) (Below.refl _ _) (fun _ => rfl)
    (QI WB (P1 + 1) P2 N n1 M (wval ds) z0) (fun _ _ _ => False)
    (QI.own (unhide zB).lt (unhide rB).lt) (fun _ _ _ _ _ hs _ _ => hs) (unhide I0)
    (fun x => { tmps:=#[.slice ga n ca,.slice (some ⟨bb,ob,none⟩) M cb,undef,undef,.pointer (some ⟨P0,0,none⟩),.slice none 0 0,.pointer (some ⟨P0 + 1,0,none⟩),.int .i64 (s:Int),.pointer (some ⟨P1,0,none⟩),.pointer (some ⟨P1 + 1 + 1,0,none⟩),.int .i64 (x.1.1:Int),.slice (some ⟨bb,ob,none⟩) M cb,.int .i64 (M:Int),.slice (some ⟨bb,ob,none⟩) M cb,.int .i64 (M:Int),.int .i64 (m1:Int),.pointer (some ⟨bb,ob + m1,none⟩),.int .u64 (t:Int),.int .i64 (s:Int),.slice (some ⟨bb,ob,none⟩) M cb,.int .i64 (s:Int),.slice (some ⟨bd,0,none⟩) M cd,.agg #[.slice (some ⟨bd,0,none⟩) M cd,.int .u64 (v:Int)],.slice ga n ca,.int .i64 (n:Int),.int .i64 (n1:Int),.slice (some ⟨P1 + 1,0,none⟩) n1 n1,.slice (some ⟨P1 + 1,0,none⟩) n1 n1,.slice ga n ca,.int .i64 (s:Int),.slice ga2 zs0.length ca2,.int .i64 (zs0.length:Int),.slice ga n ca,.int .i64 (n:Int),.int .i64 (M:Int),.int .i64 (nd:Int),.int .i64 (N:Int),.slice (some ⟨P2,0,none⟩) N N,.slice (some ⟨P2,0,none⟩) N N,.func (.func 107) #[] #[.pointer (some ⟨P2 + 1,0,none⟩)],.int .i64 (x.1.1:Int),.int .u64 (x.2:Int),undef,undef,undef,undef,undef,undef,undef,undef,undef,undef,undef,undef,undef,undef,undef,undef,undef,undef,undef],defers:=[] }) ?assign ?body ?done ?stop
  case assign =>
    intro l x W K hK
    gi_wp2
    exact hK
  case body =>
    rintro lp pre ⟨⟨i,hi⟩,dd⟩ W hI hlt
    obtain ⟨o,zs,qs,k1,l1,d1,k2,l2,d2,hq⟩:=hI
    have CT:=hide (unhide HT0 W zs i hi o k1 l1 d1)
    have HStep:=hide (fun e W2 (h:TfAns W.drew (P1 + 1) i M (wval ds) zs e W2) => QI.step (WB:=WB) (W:=W) (Bs:=P2 + 1) (N:=N) (pre:=pre) (x:=(⟨i,hi⟩,dd)) (unhide zB).lt (unhide rB).lt xsB.lt (by omega) (by omega) (by omega) (unhide lz0) hDp (unhide HNn).1 o k1 l1 d1 k2 l2 d2 hq h)
    have hS:=unhide HS W o
    have HO:=hide o
    obtain ⟨iM,hiM⟩:∃ iM,iM = i + M:=⟨_,rfl⟩
    obtain ⟨iH,hiH⟩:∃ iH,iH = i + M + 1:=⟨_,rfl⟩
    obtain ⟨M',hM'⟩:∃ M',M' = M + 1:=⟨_,rfl⟩
    obtain ⟨cc,hcc⟩:∃ cc,cc = n1 - i:=⟨_,rfl⟩
    rw [<- hM',<- hcc] at CT
    have HNN:=unhide HNn
    have a1:(i:Int) + (M:Int) = (iM:Int):=by omega
    have a2:IntKind.i64.wrap (iM:Int) = (iM:Int):=by rw [IntKind.wrap_i64]; omega
    have a3:(iM:Int) + 1 = (iH:Int):=by omega
    have a4:IntKind.i64.wrap (iH:Int) = (iH:Int):=by rw [IntKind.wrap_i64]; omega
    have a5:i <= iH /\ iH <= n1 /\ iH - i = M' /\ n1 - i = cc /\ ¬ n1 = i /\ ¬ iH = i:=by omega
    obtain ⟨a5,a6,a7,a8,a9,a10⟩:=a5
    obtain ⟨s0,s1,s2,s3,s4⟩:=hS
    clear o k1 l1 d1 k2 l2 d2 hq hiM hiH hM' hcc HNN
    dsimp only
    gi_wp2
    refine region_round (fun w' => w'.cell? ⟨P0,0,none⟩ = some (.slice (some ⟨P2,0,none⟩) N N) /\ w'.cell? ⟨P1,0,none⟩ = some (.slice (some ⟨bd,0,none⟩) M cd) /\ w'.cell? ⟨P1,1,none⟩ = some (.int .u64 (v:Int)) /\ w'.cell? ⟨P1 + 1 + 1,0,none⟩ = some (.slice (some ⟨P1 + 1,0,none⟩) n1 n1) /\ w'.cell? ⟨P0 + 1,0,none⟩ = some (.int .i64 (M:Int))) (by kernel_rfl) (by kernel_rfl) (fun ⟨_,_,h⟩ => h) ⟨s0,s1,s2,s3,s4⟩ (fun hHeld => ?_)
    refine wpAnyH_take (i:=0) (oi:=_) (v:=.slice (some ⟨P2,0,none⟩) N N) rfl (by kernel_rfl) (by kernel_rfl) (by kernel_rfl) (fun _ _ _ h => h) (Or.inl ⟨by rfl,?_⟩) (by assumption) ?_
    · intro w hSw
      (try dsimp only at hSw)
      go_simp
    simp only [Act.put,List.setIfInBounds_toArray,List.set_cons_zero,List.set_cons_succ]
    refine wpAnyH_take (i:=1) (oi:=_) (v:=.int .i64 (i:Int)) rfl (by kernel_rfl) (by kernel_rfl) (by kernel_rfl) (fun _ _ _ h => h) (Or.inl ⟨by rfl,?_⟩) (by assumption) ?_
    · intro w hSw
      (try dsimp only at hSw)
      go_simp
    simp only [Act.put,List.setIfInBounds_toArray,List.set_cons_zero,List.set_cons_succ]
    refine wpAnyH_take (i:=2) (oi:=_) (v:=.agg #[.slice (some ⟨bd,0,none⟩) M cd,.int .u64 (v:Int)]) rfl (by kernel_rfl) (by kernel_rfl) (by kernel_rfl) (fun _ _ _ h => h) (Or.inl ⟨by rfl,?_⟩) (by assumption) ?_
    · intro w hSw
      (try dsimp only at hSw)
      go_simp
    simp only [Act.put,List.setIfInBounds_toArray,List.set_cons_zero,List.set_cons_succ]
    refine wpAnyH_take (i:=3) (oi:=_) (v:=.slice (some ⟨P1 + 1,0,none⟩) n1 n1) rfl (by kernel_rfl) (by kernel_rfl) (by kernel_rfl) (fun _ _ _ h => h) (Or.inl ⟨by rfl,?_⟩) (by assumption) ?_
    · intro w hSw
      (try dsimp only at hSw)
      go_simp
    simp only [Act.put,List.setIfInBounds_toArray,List.set_cons_zero,List.set_cons_succ]
    refine wpAnyH_take (i:=4) (oi:=_) (v:=.int .i64 (i:Int)) rfl (by kernel_rfl) (by kernel_rfl) (by kernel_rfl) (fun _ _ _ h => h) (Or.inl ⟨by rfl,?_⟩) (by assumption) ?_
    · intro w hSw
      (try dsimp only at hSw)
      go_simp
    simp only [Act.put,List.setIfInBounds_toArray,List.set_cons_zero,List.set_cons_succ]
    refine wpAnyH_take (i:=5) (oi:=_) (v:=.int .i64 (i:Int)) rfl (by kernel_rfl) (by kernel_rfl) (by kernel_rfl) (fun _ _ _ h => h) (Or.inl ⟨by rfl,?_⟩) (by assumption) ?_
    · intro w hSw
      (try dsimp only at hSw)
      go_simp
    simp only [Act.put,List.setIfInBounds_toArray,List.set_cons_zero,List.set_cons_succ]
    refine wpAnyH_take (i:=6) (oi:=_) (v:=.int .i64 (M:Int)) rfl (by kernel_rfl) (by kernel_rfl) (by kernel_rfl) (fun _ _ _ h => h) (Or.inl ⟨by rfl,?_⟩) (by assumption) ?_
    · intro w hSw
      (try dsimp only at hSw)
      go_simp
    simp only [Act.put,List.setIfInBounds_toArray,List.set_cons_zero,List.set_cons_succ]
    refine wpAnyH_take (i:=7) (oi:=_) (v:=.int .i64 (iM:Int)) rfl (by kernel_rfl) (by kernel_rfl) (by kernel_rfl) (fun _ _ _ h => h) (Or.inl ⟨by rfl,?_⟩) (by assumption) ?_
    · intro w hSw
      (try dsimp only at hSw)
      go_simp
    simp only [Act.put,List.setIfInBounds_toArray,List.set_cons_zero,List.set_cons_succ]
    refine wpAnyH_take (i:=8) (oi:=_) (v:=.int .i64 (iH:Int)) rfl (by kernel_rfl) (by kernel_rfl) (by kernel_rfl) (fun _ _ _ h => h) (Or.inl ⟨by rfl,?_⟩) (by assumption) ?_
    · intro w hSw
      (try dsimp only at hSw)
      go_simp
    simp only [Act.put,List.setIfInBounds_toArray,List.set_cons_zero,List.set_cons_succ]
    refine wpAnyH_take (i:=9) (oi:=_) (v:=.slice (some ⟨P1 + 1,i,none⟩) M' cc) rfl (by kernel_rfl) (by kernel_rfl) (by kernel_rfl) (fun _ _ _ h => h) (Or.inl ⟨by rfl,?_⟩) (by assumption) ?_
    · intro w hSw
      (try dsimp only at hSw)
      go_simp
    simp only [Act.put,List.setIfInBounds_toArray,List.set_cons_zero,List.set_cons_succ]
    refine wpAnyH_ready (rs:=[10]) (by kernel_rfl) (by simp) ?_
    refine AllReadyH.cons (o:=_) rfl (fun K hK => ?_) AllReadyH.nil
    go_simp
    refine (unhide CT).mono ?_
    rintro e W2 hT
    obtain ⟨qw,rfl,hq64,o2,cc2,ff2,HF⟩:=unhide HStep _ _ hT
    have HF:=hide HF
    have S2:=unhide HS W2 ((unhide HO).trans (o2.mono (fun k hk => Or.inl hk)))
    clear hT HStep CT
    go_wp2_with fail
    refine hK.out _ _ S2 (fun hHeld => ?_)
    clear hK K
    (try simp only [Act.put,List.setIfInBounds_toArray,List.set_cons_zero,List.set_cons_succ])
    refine wpAnyH_ready (rs:=[11]) (by kernel_rfl) (by simp) ?_
    refine AllReadyH.cons (o:=_) rfl (fun K hK => ?_) AllReadyH.nil
    go_simp
    refine hK.out _ _ S2 (fun hHeld => ?_)
    clear hK K
    (try simp only [Act.put,List.setIfInBounds_toArray,List.set_cons_zero,List.set_cons_succ])
    refine wpAnyH_ready (rs:=[12]) (by kernel_rfl) (by simp) ?_
    refine AllReadyH.cons (o:=_) rfl (fun K hK => ?_) AllReadyH.nil
    (try dsimp only at cc2 ff2)
    go_simp
    refine hK.out _ _ (unhide HS _ (unhide HF).2.2.out) (fun hHeld => ?_)
    clear hK K
    refine wpAnyH_done (by kernel_rfl) ?_ _
    exact unhide HF
  case done =>
    rintro D xs W hD ⟨hxl,hdn⟩ hI hK
    obtain ⟨o,zs,qs,k1,l1,d1,k2,l2,d2,hq⟩:=hI
    have hqt:=hq hdn
    rw [hxl,Nat.sub_self] at hqt
    obtain ⟨vq,vr⟩:=qt_end hqt
    rw [unhide vz0,vD,(dg_shift _ _ s).1] at vq
    rw [unhide vz0,vD,(dg_shift _ _ s).2] at vr
    have VQ:=hide vq
    obtain ⟨s0,s1,s2,s3,s4⟩:=unhide HS W o
    have HO:=hide o
    have DW:=hide (fun j => d1 j)
    obtain ⟨lq,hlq⟩:∃ lq,lq = nlen qs N:=⟨_,rfl⟩
    have CTr:=hide (fun W' (b:Below W.heap.size W W') => dtrim_any W' (some ⟨P2,0,none⟩) P2 0 N N lq qs l2 (by omega) (Blk.whole (k2.next b) l2) hlq)
    have CSh:=hide (fun W' (b:Below W.heap.size W W') => shr_w W' (.slice (some ⟨P1 + 1,0,none⟩) M n1) (s:Int) (wval us % wval vs * 2 ^ s) s (by omega) ⟨_,_,_,_,zs.take M,by rw [List.length_take,Nat.min_eq_left (by have:=(unhide HNn).2; omega)],by have:=(k1.next b).rep 0 M n1 (by have:=(unhide HNn).2; omega) (by have:=(unhide HNn).2; omega); rw [List.drop_zero] at this; exact this,wDig_take d1 M,vr,by simp; omega⟩)
    simp only [Nat.mul_div_cancel _ (Nat.two_pow_pos s)] at CSh
    have K2:=hide k2
    have L2:=hide l2
    have D2:=hide d2
    have HLQ:=hide hlq
    have lMn:M <= n1:=by have:=(unhide HNn).2; omega
    have hDl:D < W.heap.size:=(Array.getElem?_eq_some_iff.1 hK).1
    clear o k1 l1 d1 k2 l2 d2 hq hqt vq vr hlq DW hdn hxl I0
    have xqW:=boxed_away xqB (unhide HO) (by omega)
    have lW:P0 + 1 < W.heap.size /\ P1 + 1 + 1 < W.heap.size /\ P0 < W.heap.size:=by have:=(unhide HO).size; omega
    have HX1:Hid (∀ W',Below W.heap.size W W' -> W'.cell? ⟨P1 + 1 + 1,0,none⟩ = some (.slice (some ⟨P1 + 1,0,none⟩) n1 n1) /\ W'.cell? ⟨P0 + 1,0,none⟩ = some (.int .i64 (M:Int))):=fun W' b => ⟨(b.cell (p:=⟨P1 + 1 + 1,0,none⟩) lW.2.1).trans s3,(b.cell (p:=⟨P0 + 1,0,none⟩) lW.1).trans s4⟩
    have HX2:Hid (∀ W' u,Below W.heap.size W W' -> (W'.setCell ⟨P0,0,none⟩ u).cell? ⟨P1 + 1 + 1,0,none⟩ = some (.slice (some ⟨P1 + 1,0,none⟩) n1 n1) /\ (W'.setCell ⟨P0,0,none⟩ u).cell? ⟨P0 + 1,0,none⟩ = some (.int .i64 (M:Int))):=fun W' u b => ⟨(World.cell?_setCell_far _ _ _ _ (by show P0 ≠ P1 + 1 + 1; omega)).trans (unhide HX1 W' b).1,(World.cell?_setCell_far _ _ _ _ (by show P0 ≠ P0 + 1; omega)).trans (unhide HX1 W' b).2⟩
    gi_wp2
    refine wpIn_wide.2 ?_
    have bl:Below W.heap.size W W.drew:=(Below.refl _ _).drew
    have s0':W.drew.cell? ⟨P0,0,none⟩ = some (.slice (some ⟨P2,0,none⟩) N N):=s0
    refine wp_region_noPanic ?_
    refine wp_region_held_drew (S:=fun w' => w'.cell? ⟨P1 + 1 + 1,0,none⟩ = some (.slice (some ⟨P1 + 1,0,none⟩) n1 n1) /\ w'.cell? ⟨P0 + 1,0,none⟩ = some (.int .i64 (M:Int))) (by kernel_rfl) (unhide HX1 _ bl) (fun hHeld => ?_)
    refine wpAnyH_take (i:=2) (oi:=_) (v:=.slice (some ⟨P1 + 1,0,none⟩) n1 n1) rfl (by kernel_rfl) (by kernel_rfl) (by kernel_rfl) (fun _ _ _ h => h) (Or.inl ⟨by rfl,?_⟩) (by assumption) ?_
    · intro w hSw
      (try dsimp only at hSw)
      go_simp
    simp only [Act.put,List.setIfInBounds_toArray,List.set_cons_zero,List.set_cons_succ]
    refine wpAnyH_take (i:=3) (oi:=_) (v:=.int .i64 (M:Int)) rfl (by kernel_rfl) (by kernel_rfl) (by kernel_rfl) (fun _ _ _ h => h) (Or.inl ⟨by rfl,?_⟩) (by assumption) ?_
    · intro w hSw
      (try dsimp only at hSw)
      go_simp
    simp only [Act.put,List.setIfInBounds_toArray,List.set_cons_zero,List.set_cons_succ]
    refine wpAnyH_take (i:=4) (oi:=_) (v:=.slice (some ⟨P1 + 1,0,none⟩) M n1) rfl (by kernel_rfl) (by kernel_rfl) (by kernel_rfl) (fun _ _ _ h => h) (Or.inl ⟨by rfl,?_⟩) (by assumption) ?_
    · intro w hSw
      (try dsimp only at hSw)
      go_simp
    simp only [Act.put,List.setIfInBounds_toArray,List.set_cons_zero,List.set_cons_succ]
    refine wpAnyH_take (i:=5) (oi:=_) (v:=.int .i64 (s:Int)) rfl (by kernel_rfl) (by kernel_rfl) (by kernel_rfl) (fun _ _ _ h => h) (Or.inl ⟨by rfl,?_⟩) (by assumption) ?_
    · intro w hSw
      (try dsimp only at hSw)
      go_simp
    simp only [Act.put,List.setIfInBounds_toArray,List.set_cons_zero,List.set_cons_succ]
    refine wpAnyH_ready (rs:=[0]) (by kernel_rfl) (by simp) ?_
    refine AllReadyH.cons (o:=_) rfl (fun K hK => ?_) AllReadyH.nil
    go_simp
    refine hK.out _ _ (unhide HX1 _ bl) (fun hHeld => ?_)
    clear hK K
    (try simp only [Act.put,List.setIfInBounds_toArray,List.set_cons_zero,List.set_cons_succ])
    refine wpAnyH_ready (rs:=[1]) (by kernel_rfl) (by simp) ?_
    refine AllReadyH.cons (o:=_) rfl (fun K hK => ?_) AllReadyH.nil
    go_simp
    refine (unhide CTr _ bl).mono ?_
    rintro e W5 ⟨rfl,hw⟩
    obtain rfl:=hw.symm
    clear hw
    go_wp2_with fail
    refine hK.out _ _ (unhide HX1 _ bl) (fun hHeld => ?_)
    clear hK K
    (try simp only [Act.put,List.setIfInBounds_toArray,List.set_cons_zero,List.set_cons_succ])
    refine wpAnyH_ready (rs:=[6]) (by kernel_rfl) (by simp) ?_
    refine AllReadyH.cons (o:=_) rfl (fun K hK => ?_) AllReadyH.nil
    go_simp
    refine (unhide CSh _ bl).mono ?_
    rintro e W6 ⟨r,rfl,nr,b6⟩
    have NR:=hide nr
    obtain ⟨ra,rl,rc,rfl⟩:=nr.shape
    have bl:=bl.trans (b6.mono bl.size)
    have xq6:=boxed_next xqW bl
    have cq6:=xq6.cell
    have fq6:=xq6.frozen
    clear nr
    go_wp2_with fail
    refine hK.out _ _ (unhide HX1 _ bl) (fun hHeld => ?_)
    clear hK K
    (try simp only [Act.put,List.setIfInBounds_toArray,List.set_cons_zero,List.set_cons_succ])
    refine wpAnyH_ready (rs:=[7]) (by kernel_rfl) (by simp) ?_
    refine AllReadyH.cons (o:=_) rfl (fun K hK => ?_) AllReadyH.nil
    go_simp
    refine hK.out _ _ (unhide HX2 _ _ bl) (fun hHeld => ?_)
    clear hK K
    (try simp only [Act.put,List.setIfInBounds_toArray,List.set_cons_zero,List.set_cons_succ])
    refine wpAnyH_ready (rs:=[8]) (by kernel_rfl) (by simp) ?_
    refine AllReadyH.cons (o:=_) rfl (fun K hK => ?_) AllReadyH.nil
    go_simp
    refine hK.out _ _ (unhide HX2 _ _ bl) (fun hHeld => ?_)
    clear hK K
    (try simp only [Act.put,List.setIfInBounds_toArray,List.set_cons_zero,List.set_cons_succ])
    refine wpAnyH_done (by kernel_rfl) ?_ _
    refine NoPanic.normal ?_
    have cz6:=(xq6.set (.slice (some ⟨P2,0,none⟩) lq N)).cell
    gi_wp2
    have hD2:P2 + 1 < D:=by omega
    have hK6:(W6.setCell ⟨P0,0,none⟩ (.slice (some ⟨P2,0,none⟩) lq N)).heap[D]? = some (.deferred (some [])):=(heap_setCell_other _ _ _ _ (by show D ≠ P0; omega)).trans ((bl.block D hDl).trans hK)
    have oE:=out_end W6 P0 D (.slice (some ⟨P2,0,none⟩) lq N) (.deferred none)
    have xE:Boxed ((W6.setCell ⟨P0,0,none⟩ (.slice (some ⟨P2,0,none⟩) lq N)).putObj D (.deferred none)) P0 29 (.slice (some ⟨P2,0,none⟩) lq N):=(World.putObj_heap_other (by omega)).trans (xq6.set (.slice (some ⟨P2,0,none⟩) lq N))
    have cE:=xE.cell
    have kE:=oE.blk ((unhide K2).next bl) (by omega)
    have nE:=oE.newW (unhide NR) (fun k hk => by have:W.drew.heap.size = W.heap.size:=rfl; omega)
    have bE:Below w.heap.size w ((W6.setCell ⟨P0,0,none⟩ (.slice (some ⟨P2,0,none⟩) lq N)).putObj D (.deferred none)):=by
      have h1:=(unhide BWB).trans ((unhide HO).below (unhide BWB).size (fun k hk => by omega))
      have h2:=h1.trans (bl.mono h1.size)
      exact h2.trans (oE.below h2.size (fun k hk => by omega))
    obtain ⟨gr,hgr,nE⟩:=newW_pick nE
    refine ⟨by simp,.inl ⟨_,_,rfl,run_takeDeferred hK6,?_⟩⟩
    refine ⟨.tuple #[.slice (some ⟨P2,0,none⟩) lq N,.slice ra rl rc],by simp [results,Tryz.results60,go_sem,cE],?_⟩
    refine ⟨_,_,P2,gr,rfl,newB_blk kE (unhide D2) (unhide L2) (by omega) (unhide HLQ) (unhide VQ),nE,⟨?_,by omega,?_⟩,bE⟩
    · have:W.drew.heap.size = W.heap.size:=rfl
      have:=(unhide HO).size
      omega
    · have:W.drew.heap.size = W.heap.size:=rfl
      have:=(unhide HO).size
      omega
  case stop =>
    rintro D c pre W _ _ h _
    exact h.elim

end Go.Proofs.YtpdpnomocbehkaaGreatDoor

/- New and Long of divs. -/
namespace Go.Proofs.YtpdpnomocbehkaaGreatDoor
open Go.RowKit

set_option maxHeartbeats 1600000 in
theorem spec_dnew:SpecDNew:=by
  intro T w
  have CC:=hide (fun w => spec_mnew T w)
  unfold Tab.val at CC ⊢
  go_enter Tryz.func75,Tryz.ntmps75
  go_wp2_with fail
  refine (unhide CC _).mono ?_
  rintro e w1 ⟨gm,gt,gk,ge,g,rfl,E1,⟨hgm,hgt,hgk,hge,hg⟩,b1⟩
  have hg':w.heap.size <= g:=Nat.le_trans (by simp) hg
  have hge':w.heap.size <= ge:=Nat.le_trans (by simp) hge
  have hgk':w.heap.size <= gk:=Nat.le_trans (by simp) hgk
  have hgt':w.heap.size <= gt:=Nat.le_trans (by simp) hgt
  have hgm':w.heap.size <= gm:=Nat.le_trans (by simp) hgm
  have b0:=hide (bstep ((Below.refl w.heap.size w).alloc (Nat.le_refl _) _) b1)
  have tl:=E1.met.lt
  have HE:=hide E1
  clear CC b1 hg E1 hge hgk hgt hgm
  go_wp2
  go_ret
  refine ⟨w1.heap.size,gm,gt,gk,ge,g,rfl,⟨?_,(unhide HE).next ((Below.refl _ _).alloc (Nat.le_refl _) _),by omega⟩,⟨(unhide b0).size,hgm',hgt',hgk',hge',hg'⟩,(unhide b0).alloc (unhide b0).size _⟩
  exact cell_of_row _ w1.heap.size 0 _ _ (0,0) (heap_alloc_new w1 _)

theorem newW_pick_ne {B X:Nat} {w:World} {v:Value} {n:Nat} (h:NewW B w v n) (hX:w.heap.size <= X) (hB:B <= X):∃ g,g ≠ X /\ B <= g /\ NewB g (g + 1) w v n:=by
  obtain ⟨xs,hc,hv,h | ⟨g,ys,hg,rfl,hk,hl⟩⟩:=h
  · exact ⟨X + 1,by omega,by omega,xs,hc,hv,Or.inl h⟩
  · exact ⟨g,by have:=hk.lt; omega,hg,xs,hc,hv,Or.inr ⟨g,ys,Nat.le_refl _,by omega,rfl,hk,hl⟩⟩

set_option maxRecDepth 100000 in
set_option maxHeartbeats 3200000 in
theorem spec_long:SpecLong:=by
  intro w gd gm gt gk ge g s l m T u v A C hE h0 h1 hl0 hl1 hu hv hC
  obtain ⟨ga,ba,oa,ca,xs,rfl,rA0,dA0,vA,lA0⟩:=hu
  obtain ⟨gb,bb,ob,cb,ys,rfl,rB0,dB0,vB,lB0⟩:=hv
  obtain ⟨n,hn⟩:∃ n,n = nlen xs xs.length:=⟨_,rfl⟩
  obtain ⟨M,hM⟩:∃ M,M = nlen ys ys.length:=⟨_,rfl⟩
  have CA:=hide (dtrim_any w ga ba oa ca _ n xs rfl (by omega) rA0 hn)
  have CB:=hide (dtrim_any w gb bb ob cb _ M ys rfl (by omega) rB0 hM)
  have rA:=rA0.take n (by rw [hn]; exact nlen_le _ _)
  have rB:=rB0.take M (by rw [hM]; exact nlen_le _ _)
  obtain ⟨us,hus⟩:∃ us,us = xs.take n:=⟨_,rfl⟩
  obtain ⟨vs,hvs⟩:∃ vs,vs = ys.take M:=⟨_,rfl⟩
  have cA:WCan us:=by have:=nrm_wcan dA0; unfold nrm at this; rw [<- hn,<- hus] at this; exact this
  have cB:WCan vs:=by have:=nrm_wcan dB0; unfold nrm at this; rw [<- hM,<- hvs] at this; exact this
  have vA':wval us = A:=by have:=nrm_wval xs; unfold nrm at this; rw [<- hn,<- hus,vA] at this; exact this
  have vB':wval vs = C:=by have:=nrm_wval ys; unfold nrm at this; rw [<- hM,<- hvs,vB] at this; exact this
  have lA:us.length = n:=by have:=nrm_length xs; unfold nrm at this; rw [<- hn,<- hus] at this; exact this
  have lB:vs.length = M:=by have:=nrm_length ys; unfold nrm at this; rw [<- hM,<- hvs] at this; exact this
  rw [<- hus] at rA
  rw [<- hvs] at rB
  have wA:wl A = n:=by rw [<- vA',wl_can cA,lA]
  have wC:wl C = M:=by rw [<- vB',wl_can cB,lB]
  have nb:n <= 16384:=by have:=nlen_le xs xs.length; omega
  have Mb:M <= 16384:=by have:=nlen_le ys ys.length; omega
  have M0:0 < M:=by rw [<- wC]; have:=(wl_eq_zero (n:=C)); omega
  have HG:Hid (lgc A C = if n < M then 0 else (n - M + 1) * (M + 1)):=by show _ = _; unfold lgc; rw [wA,wC]
  generalize xs.length = lx at *
  generalize ys.length = ly at *
  have HE:=hide hE
  obtain ⟨e0,e1,e2,e3,e4⟩:=hE.way
  have hgl:=hE.met.lt
  clear hus hvs hn hM dA0 dB0 vA vB rA0 rB0 wA wC hE lA0 lB0
  by_cases hlt:n < M
  · have hlti:(n:Int) < (M:Int):=by omega
    have hAC:A < C:=by rw [<- vA',<- vB']; exact wlen_lt cA.1 cB (by omega)
    have CN:=hide (norm_w w (.slice ga n ca) A ⟨ga,ba,oa,ca,us,by rw [lA],rA,cA.1,vA',by omega⟩)
    have eM:((M:Int) == 0) = false:=by simp; omega
    clear rA rB cA cB vA' vB' lA lB
    go_enter Tryz.func24,Tryz.ntmps24
    go_wp2_with fail
    refine (unhide CA).mono ?_
    rintro e w1 ⟨rfl,hw⟩
    obtain rfl:=hw.symm
    clear hw
    go_wp2_with fail
    refine (unhide CB).mono ?_
    rintro e w1 ⟨rfl,hw⟩
    obtain rfl:=hw.symm
    clear hw
    go_wp2_with fail
    refine (unhide CN).mono ?_
    rintro e w2 ⟨r,rfl,nr,b2⟩
    obtain ⟨gr,hgr,NR⟩:=newW_pick nr
    clear CA CB CN nr
    go_wp2
    go_ret3
    rw [if_pos hlt] at HG
    have eg:=unhide HG
    exact ⟨_,r,gr + 1,gr,m,rfl,by rw [Nat.div_eq_of_lt hAC]; exact newB_nil _ _ _,by rw [Nat.mod_eq_of_lt hAC]; exact NR,⟨by omega,by omega,hgr⟩,by rw [eg,Int.natCast_zero,Int.add_zero]; exact (unhide HE).next b2,rfl,Out.of_below b2⟩
  · have hlti:¬ (n:Int) < (M:Int):=by omega
    rw [if_neg hlt] at HG
    obtain ⟨nd,hnd⟩:∃ nd,nd = n - M:=⟨_,rfl⟩
    obtain ⟨N,hN⟩:∃ N,N = nd + 1:=⟨_,rfl⟩
    obtain ⟨M',hM'⟩:∃ M',M' = M + 1:=⟨_,rfl⟩
    obtain ⟨kk,hkk⟩:∃ kk,kk = N * M':=⟨_,rfl⟩
    have hkb:kk <= 16385 * 16385:=by rw [hkk]; exact Nat.mul_le_mul (by omega) (by omega)
    have HGK:Hid (lgc A C = kk):=by show _ = _; rw [unhide HG,hkk,hN,hM',hnd]
    have n1:(n:Int) - (M:Int) = (nd:Int):=by omega
    have n2:IntKind.i64.wrap (nd:Int) = (nd:Int):=by rw [IntKind.wrap_i64]; omega
    have n3:(nd:Int) + 1 = (N:Int):=by omega
    have n4:IntKind.i64.wrap (N:Int) = (N:Int):=by rw [IntKind.wrap_i64]; omega
    have n5:(M:Int) + 1 = (M':Int):=by omega
    have n6:IntKind.i64.wrap (M':Int) = (M':Int):=by rw [IntKind.wrap_i64]; omega
    have n7:(N:Int) * (M':Int) = (kk:Int):=by rw [hkk,Int.natCast_mul]
    have n8:IntKind.i64.wrap (kk:Int) = (kk:Int):=by rw [IntKind.wrap_i64]; omega
    have CS:=hide (spend_any (kk:Int) (s + (kk:Int)) (unhide HE).met (by omega) (by omega) (by omega))
    have eM:((M:Int) == 0) = false:=by simp; omega
    clear hnd hN hM' hkk HG
    by_cases hM1:M = 1
    · have eM1:((M:Int) == 1) = true:=by simp; omega
      obtain ⟨y,hy⟩:∃ y,y = vs.getD 0 0:=⟨_,rfl⟩
      have yC:y = C:=by
        rw [<- vB',hy]
        have h2:vs.length = 1:=by omega
        match vs,h2 with
        | [a],_ => simp [wval]
      have yb:y < 18446744073709551616:=by rw [hy]; exact cB.1 0
      obtain rfl:=rB.head (by omega)
      have cy:=rB.cell 0 (by omega)
      rw [<- hy,Nat.add_zero] at cy
      have HcY:Hid (∀ W,Out (· = g) w W -> W.cell? ⟨bb,ob,none⟩ = some (.int .u64 (y:Int))):=fun W o => (unhide HE).mul.cell o cy rfl (fun z e => by cases e)
      have CD:Hid (∀ W,Out (· = g) w W -> Calls Tryz.prog 58 #[.slice ga n ca,.int .u64 (y:Int)] W fun e w' => ∃ q,e = .returned (.tuple #[q,.int .u64 ((A % y:Nat):Int),.int .i64 0]) /\ NewW W.heap.size w' q (A / y) /\ Below W.heap.size W w'):=fun W o =>
        divWord_w W _ A y (by omega) yb ⟨ga,ba,oa,ca,us,by rw [lA],(unhide HE).rep o rA,cA.1,vA',by omega⟩
      have ry:A % y < 18446744073709551616:=Nat.lt_trans (Nat.mod_lt _ (by omega)) yb
      have HQ:Hid (A / y = A / C /\ A % y = A % C):=by rw [yC]; exact ⟨rfl,rfl⟩
      generalize A / y = Q at *
      generalize A % y = R at *
      have CO:=hide (fun W => one_w W R ry)
      clear rA rB cA cB vA' vB' lA lB hy yC cy hM1
      go_enter Tryz.func24,Tryz.ntmps24
      go_wp2_with fail
      refine (unhide CA).mono ?_
      rintro e w1 ⟨rfl,hw⟩
      obtain rfl:=hw.symm
      clear hw
      go_wp2_with fail
      refine (unhide CB).mono ?_
      rintro e w1 ⟨rfl,hw⟩
      obtain rfl:=hw.symm
      clear hw
      go_wp2_with fail
      with_reducible refine (unhide CS).mono ?_
      rintro e w2 ⟨rfl,M2,T2⟩
      have o2:=Out.of_grown T2.grown
      have E2:=hide ((unhide HE).step M2 T2)
      have cy:=unhide HcY _ o2
      have CD:=hide (unhide CD _ o2)
      have HO:=hide o2
      clear CA CB CS M2 T2 o2
      go_wp2_with fail
      with_reducible refine (unhide CD).mono ?_
      rintro e w3 ⟨q,rfl,nq,b3⟩
      have NQ:=hide nq
      obtain ⟨qa,ql,qc,rfl⟩:=nq.shape
      clear nq
      go_wp2_with fail
      refine (unhide CO _).mono ?_
      rintro e w4 ⟨r,rfl,nr,b4⟩
      obtain ⟨gr,hgr,NR⟩:=newW_pick nr
      obtain ⟨gq,hne,hgq,NQ⟩:=newW_pick_ne (X:=gr) (unhide NQ) hgr (Nat.le_trans b3.size hgr)
      have NQ:=hide (NQ.next b4)
      have NR:=hide NR
      obtain ⟨ra,rl,rc,rfl⟩:=nr.shape
      clear nr CD CO
      go_wp2
      go_ret3
      rw [unhide HGK,<- (unhide HQ).1,<- (unhide HQ).2]
      have sz:=(unhide HO).size
      have sz3:=b3.size
      exact ⟨_,_,gq,gr,m,rfl,unhide NQ,unhide NR,⟨hne,by omega,by omega⟩,((unhide E2).next b3).next b4,rfl,((unhide HO).next b3).next b4⟩
    · have eM1:((M:Int) == 1) = false:=by simp; omega
      obtain ⟨m2,hm2⟩:∃ m2,M = m2 + 2:=⟨M - 2,by omega⟩
      have CBm:Hid (∀ W,Out (· = g) w W -> Calls Tryz.prog 60 #[.slice ga n ca,.slice gb M cb] W fun e w' => ∃ q r gq gr,e = .returned (.tuple #[q,r]) /\ NewB gq (gq + 1) w' q (A / C) /\ NewB gr (gr + 1) w' r (A % C) /\ (gq ≠ gr /\ W.heap.size <= gq /\ W.heap.size <= gr) /\ Below W.heap.size W w'):=fun W o => by
        rw [<- vA',<- vB']
        exact byMany_any W ga ba oa ca n us gb bb ob cb m2 M vs ((unhide HE).rep o rA) cA lA ((unhide HE).rep o rB) cB lB hm2 (by omega) nb
      clear rA rB cA cB vA' vB' lA lB hm2 hM1
      go_enter Tryz.func24,Tryz.ntmps24
      go_wp2_with fail
      refine (unhide CA).mono ?_
      rintro e w1 ⟨rfl,hw⟩
      obtain rfl:=hw.symm
      clear hw
      go_wp2_with fail
      refine (unhide CB).mono ?_
      rintro e w1 ⟨rfl,hw⟩
      obtain rfl:=hw.symm
      clear hw
      go_wp2_with fail
      with_reducible refine (unhide CS).mono ?_
      rintro e w2 ⟨rfl,M2,T2⟩
      have o2:=Out.of_grown T2.grown
      have E2:=hide ((unhide HE).step M2 T2)
      have CD:=hide (unhide CBm _ o2)
      have HO:=hide o2
      clear CA CB CS M2 T2 o2 CBm
      go_wp2_with fail
      with_reducible refine (unhide CD).mono ?_
      rintro e w3 ⟨q,r,gq,gr,rfl,nq,nr,hh,b3⟩
      have NQ:=hide nq
      obtain ⟨qa,ql,qc,rfl⟩:=nq.toW.shape
      have NR:=hide nr
      obtain ⟨ra,rl,rc,rfl⟩:=nr.toW.shape
      clear nq nr
      go_wp2
      go_ret3
      rw [unhide HGK]
      have sz:=(unhide HO).size
      exact ⟨_,_,gq,gr,m,rfl,unhide NQ,unhide NR,⟨hh.1,by omega,by omega⟩,(unhide E2).next b3,rfl,(unhide HO).next b3⟩

set_option maxRecDepth 100000 in
set_option maxHeartbeats 3200000 in
theorem spec_long_no:SpecLongNo:=by
  intro w gd gm gt gk ge g s l m T u v A hE h0 h1 hl0 hl1 hu hv
  obtain ⟨ga,ba,oa,ca,xs,rfl,rA0,dA0,vA,lA0⟩:=hu
  obtain ⟨gb,bb,ob,cb,ys,rfl,rB0,dB0,vB,lB0⟩:=hv
  have hM:nlen ys ys.length = 0:=by rw [nlen_wl dB0,vB,wl_zero]
  obtain ⟨n,hn⟩:∃ n,n = nlen xs xs.length:=⟨_,rfl⟩
  have CA:=hide (dtrim_any w ga ba oa ca _ n xs rfl (by omega) rA0 hn)
  have CB:=hide (dtrim_any w gb bb ob cb _ 0 ys rfl (by omega) rB0 hM.symm)
  generalize xs.length = lx at *
  generalize ys.length = ly at *
  have HE:=hide hE
  clear rA0 rB0 hM dA0 dB0 hn hE vA vB
  go_enter Tryz.func24,Tryz.ntmps24
  go_wp2_with fail
  refine (unhide CA).mono ?_
  rintro e w1 ⟨rfl,hw⟩
  obtain rfl:=hw.symm
  clear hw
  go_wp2_with fail
  refine (unhide CB).mono ?_
  rintro e w1 ⟨rfl,hw⟩
  obtain rfl:=hw.symm
  clear hw
  go_wp2
  go_ret3
  exact ⟨_,_,_,_,s,m,rfl,unhide HE,h0,by omega,Out.refl _ _⟩

end Go.Proofs.YtpdpnomocbehkaaGreatDoor

/- LongMod of divs: remainders by several moduli. -/
namespace Go.Proofs.YtpdpnomocbehkaaGreatDoor
open Go.RowKit

end Go.Proofs.YtpdpnomocbehkaaGreatDoor
