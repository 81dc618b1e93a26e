/- blocks of the landed code: a product in pieces of the longer one. -/
import Derived.Test.YtiekgpphggejcaaGreatDoorB49
import Derived.Test.YtiekgpphggejcaaGreatDoorB4
import Derived.Stop.RegionWithIn
namespace Go.Proofs.YtiekgpphggejcaaGreatDoor
open Go.RowKit Go.Shelf

attribute [local go_sem] Oper.semAt_some
set_option linter.unusedSimpArgs false

set_option maxRecDepth 100000 in
set_option maxHeartbeats 3200000 in
theorem blocks_ab (w : World) (gm gt gk ge g : Nat) (s l m : Int) (T : Tab) (gb : Option Addr) (b o cap n b' o' cap' k q : Nat) (xs ys : List Nat) (IH : TimesSpec k) (hk : k ≤ 16384) (hk0 : 0 < k) (hn : n ≤ 16384) (hnk : k ≤ n)
    (hE : MEng w gm gt gk ge g s l m T) (hT : TB w) (h0 : 0 ≤ s) (h1 : s + 35184372088832 * ((k : Int) + 2) ≤ 2305843009213693952) (h2 : 0 ≤ l) (h3 : l + 1 + (k : Int) ≤ 100000)
    (hR : Rep w (some ⟨b, o, none⟩) b o cap xs) (hxl : xs.length = n) (hd : WDig xs) (hR' : Rep w gb b' o' cap' ys) (hyl : ys.length = k) (hd' : WDig ys) (hq1 : n ≤ k * q) (hq2 : k * q < n + k) (hq3 : q ≤ 16384) :
    Calls Tryz.prog 52 #[.pointer (some ⟨gm, 0, none⟩), .slice (some ⟨b, o, none⟩) n cap, .slice gb k cap', .int .i64 (k : Int)] w fun e w' => ∃ r, e = .returned r ∧ OneDone w gm gt gk ge g s l m T (wval xs * wval ys) (bcst T.B T.D T.N 2 n k) (lev k + 1) r w' := by
  have CE := hide (fun W (M : Met W g 0 s l m) => enter_any (l + 1) (max m (l + 1)) M rfl rfl (by omega) (by omega))
  have CC := hide (fun W => chunk_any 3 (some ⟨b, o, none⟩) n cap k W hk0)
  have hswi : ¬ (n : Int) < (k : Int) := by omega
  obtain ⟨i0, hi, hz0, hz1, hz2⟩ := info_of Tryz.infoNt
  have HT := hide hT
  have HE := hide hE
  have HR := hide hR
  have HR' := hide hR'
  have bE := Boxed.new w 26 (.pointer (some ⟨gm, 0, none⟩))
  have bB := Boxed.new (w.alloc (.cells #[.pointer (some ⟨gm, 0, none⟩)] 26)) 29 (.slice gb k cap')
  rw [World.size_alloc] at bB
  replace bE := bE.alloc (.cells #[.slice gb k cap'] 29)
  have b1 : Below w.heap.size w ((w.alloc (.cells #[.pointer (some ⟨gm, 0, none⟩)] 26)).alloc (.cells #[.slice gb k cap'] 29)) := ((Below.refl _ w).alloc (Nat.le_refl _) _).alloc (by simp) _
  obtain ⟨W1, hW1⟩ : ∃ W1, (w.alloc (.cells #[.pointer (some ⟨gm, 0, none⟩)] 26)).alloc (.cells #[.slice gb k cap'] 29) = W1 := ⟨_, rfl⟩
  rw [hW1] at bE bB b1
  obtain ⟨P0, hP0⟩ : ∃ P0, w.heap.size = P0 := ⟨_, rfl⟩
  rw [hP0] at bE bB
  have lP := bB.lt
  have hgl := hE.met.lt
  have E1 := hE.next b1
  obtain ⟨e0, e1, e2, e3⟩ := E1.way
  have cE := bE.cell
  have cB := bB.cell
  clear hE hT hR hR'
  refine (callsIn_wide (n := 4)).1 ?_
  refine callsIn_of_wp_marks Tryz.func52 rfl trivial ?_ rfl
  simp only [Tryz.ntmps52, List.size_toArray, List.length_cons, List.length_nil, Nat.reduceAdd, Nat.reduceSub, Array.replicate_succ, Array.replicate_zero, List.push_toArray, List.append_toArray, List.nil_append, List.cons_append]
  gi_wp2_with (refine ⟨trivial, ?_⟩; gi_at_call 66; refine (callsIn_wide.2 (unhide CE _ E1.met)).mono ?_; rintro e W2 ⟨rfl, M2, T2⟩; have E2 := E1.step M2 T2; have o2 := Out.of_grown T2.grown; have bE2 := boxed_out bE o2 (by omega); have bB2 := boxed_out bB o2 (by omega); obtain ⟨e0, e1, e2, e3⟩ := E2.way; obtain ⟨BP, hBP⟩ : ∃ BP, W2.heap.size = BP := ⟨_, rfl⟩; have cE := bE2.cell; have cB := bB2.cell; clear E1 bE bB M2 T2)
  refine ⟨trivial, ?_⟩
  have b3 : Below W2.heap.size W2 (((W2.alloc (.cells #[.slice none 0 0] 65)).alloc (.cells #[.slice (some ⟨b, o, none⟩) n cap] 29)).alloc (.cells #[.int .i64 (k : Int)] 3)) := (((Below.refl _ W2).alloc (Nat.le_refl _) _).alloc (by simp) _).alloc (by simp; omega) _
  have bP := ((Boxed.new W2 65 (.slice none 0 0)).alloc (.cells #[.slice (some ⟨b, o, none⟩) n cap] 29)).alloc (.cells #[.int .i64 (k : Int)] 3)
  have bS := (Boxed.new (W2.alloc (.cells #[.slice none 0 0] 65)) 29 (.slice (some ⟨b, o, none⟩) n cap)).alloc (.cells #[.int .i64 (k : Int)] 3)
  have bN := Boxed.new ((W2.alloc (.cells #[.slice none 0 0] 65)).alloc (.cells #[.slice (some ⟨b, o, none⟩) n cap] 29)) 3 (.int .i64 (k : Int))
  have CC3 := hide (unhide CC (W2.alloc (.cells #[.slice none 0 0] 65)))
  have hsz : (((W2.alloc (.cells #[.slice none 0 0] 65)).alloc (.cells #[.slice (some ⟨b, o, none⟩) n cap] 29)).alloc (.cells #[.int .i64 (k : Int)] 3)).heap.size = BP + 1 + 1 + 1 := by simp [hBP]
  rw [World.size_alloc, World.size_alloc, hBP] at bN
  rw [World.size_alloc, hBP] at bS
  rw [hBP] at bP
  rw [World.size_alloc, hBP] at CC3
  have bE4 := (((bE2.alloc (.cells #[.slice none 0 0] 65)).alloc (.cells #[.slice (some ⟨b, o, none⟩) n cap] 29)).alloc (.cells #[.int .i64 (k : Int)] 3))
  have bB4 := (((bB2.alloc (.cells #[.slice none 0 0] 65)).alloc (.cells #[.slice (some ⟨b, o, none⟩) n cap] 29)).alloc (.cells #[.int .i64 (k : Int)] 3))
  have E4 := E2.next b3
  obtain ⟨W4, hW4⟩ : ∃ W4, ((W2.alloc (.cells #[.slice none 0 0] 65)).alloc (.cells #[.slice (some ⟨b, o, none⟩) n cap] 29)).alloc (.cells #[.int .i64 (k : Int)] 3) = W4 := ⟨_, rfl⟩
  rw [hW4] at b3 bP bS bN CC3 hsz bE4 bB4 E4
  have o4 : Out (· = g) w W4 := ((Out.of_below b1).trans o2).next b3
  have lB := bE2.lt
  have lB' := bB2.lt
  rw [hBP] at lB lB'
  obtain ⟨base, hbase⟩ : ∃ base, W4.heap.size = base := ⟨_, rfl⟩
  have I0 : Hid (BI w gm gt gk ge g s l m T (lev k) P0 (P0 + 1) BP (BP + 1) (BP + 1 + 1) base (.slice gb k cap') (.slice (some ⟨b, o, none⟩) n cap) k n (wval ys) xs [] W4) := ⟨⟨_, by rw [show psum T k n [] = 0 from rfl, Int.natCast_zero, Int.add_zero]; exact E4, Int.le_refl _, by omega⟩, bE4, bB4, bS, bN, ⟨_, [], bP, World.ownsRow_nil _ _ _ _, PR.nil _ _⟩, o4⟩
  refine (unhide CC3).mono ?_
  rintro e W4' ⟨rfl, hx⟩
  obtain rfl := hx.symm
  clear hx CC CC3 CE
  gi_wp2
  have hcap := (unhide HR).room
  rw [hxl] at hcap
  refine wpIn_rangeFunc_ownG rfl (by omega) (gf := 93) (lb := #[.pointer (some ⟨BP + 1, 0, none⟩), .pointer (some ⟨BP + 1 + 1, 0, none⟩)]) rfl trivial (enters_of Tryz.func93 (by kernel_rfl) rfl)
    (chunk_stops 3 (by omega) (BP + 1) (BP + 1 + 1) b o n cap k q hk0 hk hn hcap hq1 hq2 W4 bS.lt bN.lt bS.cell bN.cell) keepC_t (keepC_b bS.lt bN.lt) (Below.refl _ _) (fun _ => rfl)
    (BI w gm gt gk ge g s l m T (lev k) P0 (P0 + 1) BP (BP + 1) (BP + 1 + 1) base (.slice gb k cap') (.slice (some ⟨b, o, none⟩) n cap) k n (wval ys) xs) (fun _ _ _ => False)
    (by rw [hbase]; exact BI.own (unhide HE) (by omega)) (fun _ _ _ _ _ hs _ _ => hs) (unhide I0)
    (fun x => { tmps := #[.pointer (some ⟨gm, 0, none⟩), .slice (some ⟨b, o, none⟩) n cap, .slice gb k cap', .int .i64 (k : Int), .pointer (some ⟨P0, 0, none⟩), undef, .pointer (some ⟨P0 + 1, 0, none⟩), undef, .slice none 0 0, .pointer (some ⟨BP, 0, none⟩), pieceV b o n k x, .slice (some ⟨b, o, none⟩) n cap, .int .i64 (n : Int), .slice gb k cap', .int .i64 (k : Int), .bool false, undef, undef, .pointer (some ⟨gm, 0, none⟩), .pointer (some ⟨gm, 0, none⟩), .pointer (some ⟨gm, 0, none⟩), .pointer (some ⟨gt, 0, none⟩), .pointer (some ⟨gt, 0, none⟩), .pointer (some ⟨gt, 0, none⟩), .pointer (some ⟨gk, 0, none⟩), .pointer (some ⟨gk, 0, none⟩), .pointer (some ⟨gk, 0, none⟩), .pointer (some ⟨ge, 0, none⟩), .pointer (some ⟨ge, 0, none⟩), .pointer (some ⟨ge, 0, none⟩), .pointer (some ⟨g, 0, none⟩), .pointer (some ⟨g, 0, none⟩), .pointer (some ⟨g, 0, none⟩), .int .i64 (l + 1), .pointer (some ⟨gm, 0, none⟩), .pointer (some ⟨gm, 0, none⟩), .pointer (some ⟨gm, 0, none⟩), .pointer (some ⟨gt, 0, none⟩), .pointer (some ⟨gt, 0, none⟩), .pointer (some ⟨gt, 0, none⟩), .pointer (some ⟨gk, 0, none⟩), .pointer (some ⟨gk, 0, none⟩), .pointer (some ⟨gk, 0, none⟩), .pointer (some ⟨ge, 0, none⟩), .pointer (some ⟨ge, 0, none⟩), .pointer (some ⟨ge, 0, none⟩), .pointer (some ⟨g, 0, none⟩), .pointer (some ⟨g, 0, none⟩), .pointer (some ⟨g, 0, none⟩), .slice (some ⟨b, o, none⟩) n cap, .int .i64 (k : Int), .func (.func 93) #[] #[.pointer (some ⟨BP + 1, 0, none⟩), .pointer (some ⟨BP + 1 + 1, 0, none⟩)], pieceV b o n k x, undef, undef, undef, undef, undef, undef, undef, undef, undef, undef], defers := [] }) ?assign ?body ?done ?stop
  case assign =>
    intro l x W K hK
    gi_wp2
    exact hK
  case body =>
    rintro lp pre x W hI hlt
    have hb : w.heap.size ≤ base := by omega
    have HD := hide (hI.drew (unhide HE) hb)
    have CT := hide (BI.times IH hk (unhide HE) (unhide HT) h0 h1 h2 h3 (unhide HR) hxl hd (unhide HR') hyl hd' hq3 (unhide HD) x hlt)
    obtain ⟨v, us, p1, p2, p3⟩ := hI.prod
    obtain ⟨gv, bv, cv, rfl, _, _, _⟩ := owns_vals p2
    have HRD := hide (BI.round (x := x) (unhide HE) hb (by omega) (by omega) (by omega) (by omega) (by omega) (by omega) (by omega) (by omega) (by omega) hI (by have := hI.bN.lt; omega) (by omega) p1 p2 p3)
    have cP := p1.cell
    have fP := p1.frozen
    have cE := hI.bE.cell
    have cB := hI.bB.cell
    clear hI p1 p2 p3 IH E2 E4 I0 bE2 bB2 bE4 bB4 bP bS bN
    gi_wp2
    -- round
    refine region_round (fun w' => w'.cell? ⟨P0, 0, none⟩ = some (.pointer (some ⟨gm, 0, none⟩)) ∧ w'.cell? ⟨P0 + 1, 0, none⟩ = some (.slice gb k cap')) (by kernel_rfl) (by kernel_rfl) (fun ⟨_, _, h⟩ => h) ⟨cE, cB⟩ (fun hHeld => ?_)
    refine wpAnyH_take (i := 1) (oi := _) (v := .pointer (some ⟨gm, 0, none⟩)) rfl (by kernel_rfl) (by kernel_rfl) (by kernel_rfl) (fun _ _ _ h => h) (Or.inl ⟨by rfl, ?_⟩) (by assumption) ?_
    · intro w hSw
      (try dsimp only at hSw)
      go_simp
    simp only [Act.put, List.setIfInBounds_toArray, List.set_cons_zero, List.set_cons_succ]
    refine wpAnyH_take (i := 2) (oi := _) (v := pieceV b o n k x) rfl (by kernel_rfl) (by kernel_rfl) (by kernel_rfl) (fun _ _ _ h => h) (Or.inl ⟨by rfl, ?_⟩) (by assumption) ?_
    · intro w hSw
      (try dsimp only at hSw)
      go_simp
    simp only [Act.put, List.setIfInBounds_toArray, List.set_cons_zero, List.set_cons_succ]
    refine wpAnyH_take (i := 3) (oi := _) (v := .slice gb k cap') rfl (by kernel_rfl) (by kernel_rfl) (by kernel_rfl) (fun _ _ _ h => h) (Or.inl ⟨by rfl, ?_⟩) (by assumption) ?_
    · intro w hSw
      (try dsimp only at hSw)
      go_simp
    simp only [Act.put, List.setIfInBounds_toArray, List.set_cons_zero, List.set_cons_succ]
    refine wpAnyH_ready (rs := [0, 4]) (by kernel_rfl) (by simp) ?_
    refine AllReadyH.cons (o := _) rfl (fun K hK => ?_) ?_
    · skip
      go_simp
      refine hK.out _ _ (by assumption) (fun hHeld => ?_)
      clear hK K
      (try simp only [Act.put, List.setIfInBounds_toArray, List.set_cons_zero, List.set_cons_succ])
      refine wpAnyH_ready (rs := [4]) (by kernel_rfl) (by simp) ?_
      refine AllReadyH.cons (o := _) rfl (fun K hK => ?_) AllReadyH.nil
      go_simp
      refine (unhide CT).mono ?_
      rintro e W2 ⟨r, rfl, td⟩
      obtain ⟨ra, rl, rc, rfl⟩ := td.1.shape
      obtain ⟨w1, g1, c1, hrun, cP1, fP1, S1, cE2, cB2, cP2, HF⟩ := unhide HRD W2 ra rl rc td
      clear td
      go_wp2_with fail
      refine hK.out _ _ ⟨cE2, cB2⟩ (fun hHeld => ?_)
      clear hK K
      (try simp only [Act.put, List.setIfInBounds_toArray, List.set_cons_zero, List.set_cons_succ])
      refine wpAnyH_ready (rs := [5]) (by kernel_rfl) (by simp) ?_
      refine AllReadyH.cons (o := _) rfl (fun K hK => ?_) AllReadyH.nil
      go_simp
      refine hK.out _ _ ⟨cell_up cE2 _, cell_up cB2 _⟩ (fun hHeld => ?_)
      clear hK K
      (try simp only [Act.put, List.setIfInBounds_toArray, List.set_cons_zero, List.set_cons_succ])
      refine wpAnyH_ready (rs := [6]) (by kernel_rfl) (by simp) ?_
      refine AllReadyH.cons (o := _) rfl (fun K hK => ?_) AllReadyH.nil
      refine step_append_eq rfl (.tmp 53) (.tmp 58) 65 rfl rfl rfl hrun ?_
      refine hK.out _ _ S1 (fun hHeld => ?_)
      clear hK K
      (try simp only [Act.put, List.setIfInBounds_toArray, List.set_cons_zero, List.set_cons_succ])
      refine wpAnyH_ready (rs := [7]) (by kernel_rfl) (by simp) ?_
      refine AllReadyH.cons (o := _) rfl (fun K hK => ?_) AllReadyH.nil
      go_simp
      obtain ⟨F1, F2, F3⟩ := unhide HF
      refine hK.out _ _ ⟨F3.bE.cell, F3.bB.cell⟩ (fun hHeld => ?_)
      clear hK K
      refine wpAnyH_done (by kernel_rfl) ?_ _
      exact ⟨by rw [hbase]; exact F1, F2, F3⟩
    refine AllReadyH.cons (o := _) rfl (fun K hK => ?_) AllReadyH.nil
    go_simp
    refine (unhide CT).mono ?_
    rintro e W2 ⟨r, rfl, td⟩
    obtain ⟨ra, rl, rc, rfl⟩ := td.1.shape
    obtain ⟨w1, g1, c1, hrun, cP1, fP1, S1, cE2, cB2, cP2, HF⟩ := unhide HRD W2 ra rl rc td
    clear td
    go_wp2_with fail
    refine hK.out _ _ ⟨cE2, cB2⟩ (fun hHeld => ?_)
    clear hK K
    (try simp only [Act.put, List.setIfInBounds_toArray, List.set_cons_zero, List.set_cons_succ])
    refine wpAnyH_ready (rs := [0, 5]) (by kernel_rfl) (by simp) ?_
    refine AllReadyH.cons (o := _) rfl (fun K hK => ?_) ?_
    · skip
      go_simp
      refine hK.out _ _ (by assumption) (fun hHeld => ?_)
      clear hK K
      (try simp only [Act.put, List.setIfInBounds_toArray, List.set_cons_zero, List.set_cons_succ])
      refine wpAnyH_ready (rs := [5]) (by kernel_rfl) (by simp) ?_
      refine AllReadyH.cons (o := _) rfl (fun K hK => ?_) AllReadyH.nil
      go_simp
      refine hK.out _ _ ⟨cell_up cE2 _, cell_up cB2 _⟩ (fun hHeld => ?_)
      clear hK K
      (try simp only [Act.put, List.setIfInBounds_toArray, List.set_cons_zero, List.set_cons_succ])
      refine wpAnyH_ready (rs := [6]) (by kernel_rfl) (by simp) ?_
      refine AllReadyH.cons (o := _) rfl (fun K hK => ?_) AllReadyH.nil
      refine step_append_eq rfl (.tmp 53) (.tmp 58) 65 rfl rfl rfl hrun ?_
      refine hK.out _ _ S1 (fun hHeld => ?_)
      clear hK K
      (try simp only [Act.put, List.setIfInBounds_toArray, List.set_cons_zero, List.set_cons_succ])
      refine wpAnyH_ready (rs := [7]) (by kernel_rfl) (by simp) ?_
      refine AllReadyH.cons (o := _) rfl (fun K hK => ?_) AllReadyH.nil
      go_simp
      obtain ⟨F1, F2, F3⟩ := unhide HF
      refine hK.out _ _ ⟨F3.bE.cell, F3.bB.cell⟩ (fun hHeld => ?_)
      clear hK K
      refine wpAnyH_done (by kernel_rfl) ?_ _
      exact ⟨by rw [hbase]; exact F1, F2, F3⟩
    refine AllReadyH.cons (o := _) rfl (fun K hK => ?_) AllReadyH.nil
    go_simp
    refine hK.out _ _ ⟨cell_up cE2 _, cell_up cB2 _⟩ (fun hHeld => ?_)
    clear hK K
    (try simp only [Act.put, List.setIfInBounds_toArray, List.set_cons_zero, List.set_cons_succ])
    have cP3 := cell_up cP2 (.cells #[.slice ra rl rc] 29)
    refine wpAnyH_ready (rs := [0]) (by kernel_rfl) (by simp) ?_
    refine AllReadyH.cons (o := _) rfl (fun K hK => ?_) AllReadyH.nil
    go_simp
    refine hK.out _ _ (by assumption) (fun hHeld => ?_)
    clear hK K
    (try simp only [Act.put, List.setIfInBounds_toArray, List.set_cons_zero, List.set_cons_succ])
    refine wpAnyH_ready (rs := [6]) (by kernel_rfl) (by simp) ?_
    refine AllReadyH.cons (o := _) rfl (fun K hK => ?_) AllReadyH.nil
    refine step_append_eq rfl (.tmp 53) (.tmp 58) 65 rfl rfl rfl hrun ?_
    refine hK.out _ _ S1 (fun hHeld => ?_)
    clear hK K
    (try simp only [Act.put, List.setIfInBounds_toArray, List.set_cons_zero, List.set_cons_succ])
    refine wpAnyH_ready (rs := [7]) (by kernel_rfl) (by simp) ?_
    refine AllReadyH.cons (o := _) rfl (fun K hK => ?_) AllReadyH.nil
    go_simp
    obtain ⟨F1, F2, F3⟩ := unhide HF
    refine hK.out _ _ ⟨F3.bE.cell, F3.bB.cell⟩ (fun hHeld => ?_)
    clear hK K
    refine wpAnyH_done (by kernel_rfl) ?_ _
    exact ⟨by rw [hbase]; exact F1, F2, F3⟩
    -- end
  case done =>
    rintro D zs W hD rfl hI hK
    obtain ⟨gv, bv, cv, us, p1, hul, hP⟩ := hI.parts hd hd' hyl hk
    have CJ := hide (join_k W gv bv 0 cv q k (k : Int) us _ hul (by omega) (by omega) hP)
    rw [chunks_all (by omega) (by omega)] at CJ
    have hcst : bsum T.B T.D T.N n k q = bcst T.B T.D T.N 2 n k := by rw [bsum_all _ _ _ _ _ _ hk0 hq1 hq2]; simp [bcst]
    have cP := p1.cell
    have HI := hide hI
    rw [hbase] at hD
    have hDl : D < W.heap.size := (Array.getElem?_eq_some_iff.1 hK).1
    clear hI p1 hP IH E2 E4 I0 bE2 bB2 bE4 bB4 bP bS bN
    gi_wp2_with (refine ⟨trivial, ?_⟩; gi_at_call 69; refine (callsIn_wide.2 (unhide CJ)).mono ?_; rintro e W5 ⟨r, rfl, nr, b5⟩)
    have hK5 := (b5.block D hDl).trans hK
    obtain ⟨m1, E6, q1, q2, nr6, o6⟩ := BI.six (.deferred none) (unhide HE) (unhide HI) (by omega) hD hK5 b5 nr
    rw [hcst] at E6
    refine ⟨by simp, .inl ⟨_, _, rfl, run_takeDeferred hK5, ?_⟩⟩
    refine ⟨by simp, .inr ⟨fun h => by simp [Fence.wide] at h, _, _, 67, #[.pointer (some ⟨g, 0, none⟩)], rfl, by simp [go_sem], fun _ _ => trivial, ?_⟩⟩
    refine (leave_din _ l .returning E6.met (by omega) (by omega) (by omega)).mono ?_
    rintro e u' W7 ⟨rfl, rfl, M7, T7⟩
    exact ⟨_, results_tmp rfl _ _ _, r, rfl, left_one (unhide HE) E6 q1 q2 nr6 (by have := (unhide HI).out.size; omega) o6 M7 T7⟩
  case stop =>
    rintro D c pre W _ _ h _
    exact h.elim

end Go.Proofs.YtiekgpphggejcaaGreatDoor

/- blocks of the landed code, where the longer one comes second. Written by gen_yblkb.py. -/
namespace Go.Proofs.YtiekgpphggejcaaGreatDoor
open Go.RowKit Go.Shelf

attribute [local go_sem] Oper.semAt_some
set_option linter.unusedSimpArgs false

set_option maxRecDepth 100000 in
set_option maxHeartbeats 3200000 in
theorem blocks_ba (w : World) (gm gt gk ge g : Nat) (s l m : Int) (T : Tab) (gb : Option Addr) (b o cap n b' o' cap' k q : Nat) (xs ys : List Nat) (IH : TimesSpec k) (hk : k ≤ 16384) (hk0 : 0 < k) (hn : n ≤ 16384) (hnk : k < n)
    (hE : MEng w gm gt gk ge g s l m T) (hT : TB w) (h0 : 0 ≤ s) (h1 : s + 35184372088832 * ((k : Int) + 2) ≤ 2305843009213693952) (h2 : 0 ≤ l) (h3 : l + 1 + (k : Int) ≤ 100000)
    (hR : Rep w (some ⟨b, o, none⟩) b o cap xs) (hxl : xs.length = n) (hd : WDig xs) (hR' : Rep w gb b' o' cap' ys) (hyl : ys.length = k) (hd' : WDig ys) (hq1 : n ≤ k * q) (hq2 : k * q < n + k) (hq3 : q ≤ 16384) :
    Calls Tryz.prog 52 #[.pointer (some ⟨gm, 0, none⟩), .slice gb k cap', .slice (some ⟨b, o, none⟩) n cap, .int .i64 (k : Int)] w fun e w' => ∃ r, e = .returned r ∧ OneDone w gm gt gk ge g s l m T (wval xs * wval ys) (bcst T.B T.D T.N 2 n k) (lev k + 1) r w' := by
  have CE := hide (fun W (M : Met W g 0 s l m) => enter_any (l + 1) (max m (l + 1)) M rfl rfl (by omega) (by omega))
  have CC := hide (fun W => chunk_any 3 (some ⟨b, o, none⟩) n cap k W hk0)
  have hswi : (k : Int) < (n : Int) := by omega
  obtain ⟨i0, hi, hz0, hz1, hz2⟩ := info_of Tryz.infoNt
  have HT := hide hT
  have HE := hide hE
  have HR := hide hR
  have HR' := hide hR'
  have bE := Boxed.new w 26 (.pointer (some ⟨gm, 0, none⟩))
  have bB := Boxed.new (w.alloc (.cells #[.pointer (some ⟨gm, 0, none⟩)] 26)) 29 (.slice (some ⟨b, o, none⟩) n cap)
  rw [World.size_alloc] at bB
  replace bE := bE.alloc (.cells #[.slice (some ⟨b, o, none⟩) n cap] 29)
  have b0 : Below w.heap.size w ((w.alloc (.cells #[.pointer (some ⟨gm, 0, none⟩)] 26)).alloc (.cells #[.slice (some ⟨b, o, none⟩) n cap] 29)) := ((Below.refl _ w).alloc (Nat.le_refl _) _).alloc (by simp) _
  obtain ⟨W0, hW0⟩ : ∃ W0, (w.alloc (.cells #[.pointer (some ⟨gm, 0, none⟩)] 26)).alloc (.cells #[.slice (some ⟨b, o, none⟩) n cap] 29) = W0 := ⟨_, rfl⟩
  rw [hW0] at bE bB b0
  obtain ⟨P0, hP0⟩ : ∃ P0, w.heap.size = P0 := ⟨_, rfl⟩
  rw [hP0] at bE bB
  have cB0 := bB.cell
  have fB0 := bB.frozen
  have b1 : Below w.heap.size w (W0.setCell ⟨P0 + 1, 0, none⟩ (.slice gb k cap')) := b0.setCell (p := ⟨P0 + 1, 0, none⟩) (by simp; omega) _
  replace bB := Boxed.set (.slice gb k cap') bB
  replace bE : Boxed (W0.setCell ⟨P0 + 1, 0, none⟩ (.slice gb k cap')) P0 26 (.pointer (some ⟨gm, 0, none⟩)) := (heap_setCell_other W0 ⟨P0 + 1, 0, none⟩ P0 _ (by simp)).trans bE
  obtain ⟨W1, hW1⟩ : ∃ W1, W0.setCell ⟨P0 + 1, 0, none⟩ (.slice gb k cap') = W1 := ⟨_, rfl⟩
  rw [hW1] at bE bB b1
  have lP := bB.lt
  have hgl := hE.met.lt
  have E1 := hE.next b1
  obtain ⟨e0, e1, e2, e3⟩ := E1.way
  have cE := bE.cell
  have cB := bB.cell
  clear hE hT hR hR'
  refine (callsIn_wide (n := 4)).1 ?_
  refine callsIn_of_wp_marks Tryz.func52 rfl trivial ?_ rfl
  simp only [Tryz.ntmps52, List.size_toArray, List.length_cons, List.length_nil, Nat.reduceAdd, Nat.reduceSub, Array.replicate_succ, Array.replicate_zero, List.push_toArray, List.append_toArray, List.nil_append, List.cons_append]
  gi_wp2_with (refine ⟨trivial, ?_⟩; gi_at_call 66; refine (callsIn_wide.2 (unhide CE _ E1.met)).mono ?_; rintro e W2 ⟨rfl, M2, T2⟩; have E2 := E1.step M2 T2; have o2 := Out.of_grown T2.grown; have bE2 := boxed_out bE o2 (by omega); have bB2 := boxed_out bB o2 (by omega); obtain ⟨e0, e1, e2, e3⟩ := E2.way; obtain ⟨BP, hBP⟩ : ∃ BP, W2.heap.size = BP := ⟨_, rfl⟩; have cE := bE2.cell; have cB := bB2.cell; clear E1 bE bB M2 T2)
  refine ⟨trivial, ?_⟩
  have b3 : Below W2.heap.size W2 (((W2.alloc (.cells #[.slice none 0 0] 65)).alloc (.cells #[.slice (some ⟨b, o, none⟩) n cap] 29)).alloc (.cells #[.int .i64 (k : Int)] 3)) := (((Below.refl _ W2).alloc (Nat.le_refl _) _).alloc (by simp) _).alloc (by simp; omega) _
  have bP := ((Boxed.new W2 65 (.slice none 0 0)).alloc (.cells #[.slice (some ⟨b, o, none⟩) n cap] 29)).alloc (.cells #[.int .i64 (k : Int)] 3)
  have bS := (Boxed.new (W2.alloc (.cells #[.slice none 0 0] 65)) 29 (.slice (some ⟨b, o, none⟩) n cap)).alloc (.cells #[.int .i64 (k : Int)] 3)
  have bN := Boxed.new ((W2.alloc (.cells #[.slice none 0 0] 65)).alloc (.cells #[.slice (some ⟨b, o, none⟩) n cap] 29)) 3 (.int .i64 (k : Int))
  have CC3 := hide (unhide CC (W2.alloc (.cells #[.slice none 0 0] 65)))
  have hsz : (((W2.alloc (.cells #[.slice none 0 0] 65)).alloc (.cells #[.slice (some ⟨b, o, none⟩) n cap] 29)).alloc (.cells #[.int .i64 (k : Int)] 3)).heap.size = BP + 1 + 1 + 1 := by simp [hBP]
  rw [World.size_alloc, World.size_alloc, hBP] at bN
  rw [World.size_alloc, hBP] at bS
  rw [hBP] at bP
  rw [World.size_alloc, hBP] at CC3
  have bE4 := (((bE2.alloc (.cells #[.slice none 0 0] 65)).alloc (.cells #[.slice (some ⟨b, o, none⟩) n cap] 29)).alloc (.cells #[.int .i64 (k : Int)] 3))
  have bB4 := (((bB2.alloc (.cells #[.slice none 0 0] 65)).alloc (.cells #[.slice (some ⟨b, o, none⟩) n cap] 29)).alloc (.cells #[.int .i64 (k : Int)] 3))
  have E4 := E2.next b3
  obtain ⟨W4, hW4⟩ : ∃ W4, ((W2.alloc (.cells #[.slice none 0 0] 65)).alloc (.cells #[.slice (some ⟨b, o, none⟩) n cap] 29)).alloc (.cells #[.int .i64 (k : Int)] 3) = W4 := ⟨_, rfl⟩
  rw [hW4] at b3 bP bS bN CC3 hsz bE4 bB4 E4
  have o4 : Out (· = g) w W4 := ((Out.of_below b1).trans o2).next b3
  have lB := bE2.lt
  have lB' := bB2.lt
  rw [hBP] at lB lB'
  obtain ⟨base, hbase⟩ : ∃ base, W4.heap.size = base := ⟨_, rfl⟩
  have I0 : Hid (BI w gm gt gk ge g s l m T (lev k) P0 (P0 + 1) BP (BP + 1) (BP + 1 + 1) base (.slice gb k cap') (.slice (some ⟨b, o, none⟩) n cap) k n (wval ys) xs [] W4) := ⟨⟨_, by rw [show psum T k n [] = 0 from rfl, Int.natCast_zero, Int.add_zero]; exact E4, Int.le_refl _, by omega⟩, bE4, bB4, bS, bN, ⟨_, [], bP, World.ownsRow_nil _ _ _ _, PR.nil _ _⟩, o4⟩
  refine (unhide CC3).mono ?_
  rintro e W4' ⟨rfl, hx⟩
  obtain rfl := hx.symm
  clear hx CC CC3 CE
  gi_wp2
  have hcap := (unhide HR).room
  rw [hxl] at hcap
  refine wpIn_rangeFunc_ownG rfl (by omega) (gf := 93) (lb := #[.pointer (some ⟨BP + 1, 0, none⟩), .pointer (some ⟨BP + 1 + 1, 0, none⟩)]) rfl trivial (enters_of Tryz.func93 (by kernel_rfl) rfl)
    (chunk_stops 3 (by omega) (BP + 1) (BP + 1 + 1) b o n cap k q hk0 hk hn hcap hq1 hq2 W4 bS.lt bN.lt bS.cell bN.cell) keepC_t (keepC_b bS.lt bN.lt) (Below.refl _ _) (fun _ => rfl)
    (BI w gm gt gk ge g s l m T (lev k) P0 (P0 + 1) BP (BP + 1) (BP + 1 + 1) base (.slice gb k cap') (.slice (some ⟨b, o, none⟩) n cap) k n (wval ys) xs) (fun _ _ _ => False)
    (by rw [hbase]; exact BI.own (unhide HE) (by omega)) (fun _ _ _ _ _ hs _ _ => hs) (unhide I0)
    (fun x => { tmps := #[.pointer (some ⟨gm, 0, none⟩), .slice (some ⟨b, o, none⟩) n cap, .slice (some ⟨b, o, none⟩) n cap, .int .i64 (k : Int), .pointer (some ⟨P0, 0, none⟩), undef, .pointer (some ⟨P0 + 1, 0, none⟩), undef, .slice none 0 0, .pointer (some ⟨BP, 0, none⟩), pieceV b o n k x, .slice gb k cap', .int .i64 (k : Int), .slice (some ⟨b, o, none⟩) n cap, .int .i64 (n : Int), .bool true, .slice (some ⟨b, o, none⟩) n cap, .slice gb k cap', .pointer (some ⟨gm, 0, none⟩), .pointer (some ⟨gm, 0, none⟩), .pointer (some ⟨gm, 0, none⟩), .pointer (some ⟨gt, 0, none⟩), .pointer (some ⟨gt, 0, none⟩), .pointer (some ⟨gt, 0, none⟩), .pointer (some ⟨gk, 0, none⟩), .pointer (some ⟨gk, 0, none⟩), .pointer (some ⟨gk, 0, none⟩), .pointer (some ⟨ge, 0, none⟩), .pointer (some ⟨ge, 0, none⟩), .pointer (some ⟨ge, 0, none⟩), .pointer (some ⟨g, 0, none⟩), .pointer (some ⟨g, 0, none⟩), .pointer (some ⟨g, 0, none⟩), .int .i64 (l + 1), .pointer (some ⟨gm, 0, none⟩), .pointer (some ⟨gm, 0, none⟩), .pointer (some ⟨gm, 0, none⟩), .pointer (some ⟨gt, 0, none⟩), .pointer (some ⟨gt, 0, none⟩), .pointer (some ⟨gt, 0, none⟩), .pointer (some ⟨gk, 0, none⟩), .pointer (some ⟨gk, 0, none⟩), .pointer (some ⟨gk, 0, none⟩), .pointer (some ⟨ge, 0, none⟩), .pointer (some ⟨ge, 0, none⟩), .pointer (some ⟨ge, 0, none⟩), .pointer (some ⟨g, 0, none⟩), .pointer (some ⟨g, 0, none⟩), .pointer (some ⟨g, 0, none⟩), .slice (some ⟨b, o, none⟩) n cap, .int .i64 (k : Int), .func (.func 93) #[] #[.pointer (some ⟨BP + 1, 0, none⟩), .pointer (some ⟨BP + 1 + 1, 0, none⟩)], pieceV b o n k x, undef, undef, undef, undef, undef, undef, undef, undef, undef, undef], defers := [] }) ?assign ?body ?done ?stop
  case assign =>
    intro l x W K hK
    gi_wp2
    exact hK
  case body =>
    rintro lp pre x W hI hlt
    have hb : w.heap.size ≤ base := by omega
    have HD := hide (hI.drew (unhide HE) hb)
    have CT := hide (BI.times IH hk (unhide HE) (unhide HT) h0 h1 h2 h3 (unhide HR) hxl hd (unhide HR') hyl hd' hq3 (unhide HD) x hlt)
    obtain ⟨v, us, p1, p2, p3⟩ := hI.prod
    obtain ⟨gv, bv, cv, rfl, _, _, _⟩ := owns_vals p2
    have HRD := hide (BI.round (x := x) (unhide HE) hb (by omega) (by omega) (by omega) (by omega) (by omega) (by omega) (by omega) (by omega) (by omega) hI (by have := hI.bN.lt; omega) (by omega) p1 p2 p3)
    have cP := p1.cell
    have fP := p1.frozen
    have cE := hI.bE.cell
    have cB := hI.bB.cell
    clear hI p1 p2 p3 IH E2 E4 I0 bE2 bB2 bE4 bB4 bP bS bN
    gi_wp2
    -- round
    refine region_round (fun w' => w'.cell? ⟨P0, 0, none⟩ = some (.pointer (some ⟨gm, 0, none⟩)) ∧ w'.cell? ⟨P0 + 1, 0, none⟩ = some (.slice gb k cap')) (by kernel_rfl) (by kernel_rfl) (fun ⟨_, _, h⟩ => h) ⟨cE, cB⟩ (fun hHeld => ?_)
    refine wpAnyH_take (i := 1) (oi := _) (v := .pointer (some ⟨gm, 0, none⟩)) rfl (by kernel_rfl) (by kernel_rfl) (by kernel_rfl) (fun _ _ _ h => h) (Or.inl ⟨by rfl, ?_⟩) (by assumption) ?_
    · intro w hSw
      (try dsimp only at hSw)
      go_simp
    simp only [Act.put, List.setIfInBounds_toArray, List.set_cons_zero, List.set_cons_succ]
    refine wpAnyH_take (i := 2) (oi := _) (v := pieceV b o n k x) rfl (by kernel_rfl) (by kernel_rfl) (by kernel_rfl) (fun _ _ _ h => h) (Or.inl ⟨by rfl, ?_⟩) (by assumption) ?_
    · intro w hSw
      (try dsimp only at hSw)
      go_simp
    simp only [Act.put, List.setIfInBounds_toArray, List.set_cons_zero, List.set_cons_succ]
    refine wpAnyH_take (i := 3) (oi := _) (v := .slice gb k cap') rfl (by kernel_rfl) (by kernel_rfl) (by kernel_rfl) (fun _ _ _ h => h) (Or.inl ⟨by rfl, ?_⟩) (by assumption) ?_
    · intro w hSw
      (try dsimp only at hSw)
      go_simp
    simp only [Act.put, List.setIfInBounds_toArray, List.set_cons_zero, List.set_cons_succ]
    refine wpAnyH_ready (rs := [0, 4]) (by kernel_rfl) (by simp) ?_
    refine AllReadyH.cons (o := _) rfl (fun K hK => ?_) ?_
    · skip
      go_simp
      refine hK.out _ _ (by assumption) (fun hHeld => ?_)
      clear hK K
      (try simp only [Act.put, List.setIfInBounds_toArray, List.set_cons_zero, List.set_cons_succ])
      refine wpAnyH_ready (rs := [4]) (by kernel_rfl) (by simp) ?_
      refine AllReadyH.cons (o := _) rfl (fun K hK => ?_) AllReadyH.nil
      go_simp
      refine (unhide CT).mono ?_
      rintro e W2 ⟨r, rfl, td⟩
      obtain ⟨ra, rl, rc, rfl⟩ := td.1.shape
      obtain ⟨w1, g1, c1, hrun, cP1, fP1, S1, cE2, cB2, cP2, HF⟩ := unhide HRD W2 ra rl rc td
      clear td
      go_wp2_with fail
      refine hK.out _ _ ⟨cE2, cB2⟩ (fun hHeld => ?_)
      clear hK K
      (try simp only [Act.put, List.setIfInBounds_toArray, List.set_cons_zero, List.set_cons_succ])
      refine wpAnyH_ready (rs := [5]) (by kernel_rfl) (by simp) ?_
      refine AllReadyH.cons (o := _) rfl (fun K hK => ?_) AllReadyH.nil
      go_simp
      refine hK.out _ _ ⟨cell_up cE2 _, cell_up cB2 _⟩ (fun hHeld => ?_)
      clear hK K
      (try simp only [Act.put, List.setIfInBounds_toArray, List.set_cons_zero, List.set_cons_succ])
      refine wpAnyH_ready (rs := [6]) (by kernel_rfl) (by simp) ?_
      refine AllReadyH.cons (o := _) rfl (fun K hK => ?_) AllReadyH.nil
      refine step_append_eq rfl (.tmp 53) (.tmp 58) 65 rfl rfl rfl hrun ?_
      refine hK.out _ _ S1 (fun hHeld => ?_)
      clear hK K
      (try simp only [Act.put, List.setIfInBounds_toArray, List.set_cons_zero, List.set_cons_succ])
      refine wpAnyH_ready (rs := [7]) (by kernel_rfl) (by simp) ?_
      refine AllReadyH.cons (o := _) rfl (fun K hK => ?_) AllReadyH.nil
      go_simp
      obtain ⟨F1, F2, F3⟩ := unhide HF
      refine hK.out _ _ ⟨F3.bE.cell, F3.bB.cell⟩ (fun hHeld => ?_)
      clear hK K
      refine wpAnyH_done (by kernel_rfl) ?_ _
      exact ⟨by rw [hbase]; exact F1, F2, F3⟩
    refine AllReadyH.cons (o := _) rfl (fun K hK => ?_) AllReadyH.nil
    go_simp
    refine (unhide CT).mono ?_
    rintro e W2 ⟨r, rfl, td⟩
    obtain ⟨ra, rl, rc, rfl⟩ := td.1.shape
    obtain ⟨w1, g1, c1, hrun, cP1, fP1, S1, cE2, cB2, cP2, HF⟩ := unhide HRD W2 ra rl rc td
    clear td
    go_wp2_with fail
    refine hK.out _ _ ⟨cE2, cB2⟩ (fun hHeld => ?_)
    clear hK K
    (try simp only [Act.put, List.setIfInBounds_toArray, List.set_cons_zero, List.set_cons_succ])
    refine wpAnyH_ready (rs := [0, 5]) (by kernel_rfl) (by simp) ?_
    refine AllReadyH.cons (o := _) rfl (fun K hK => ?_) ?_
    · skip
      go_simp
      refine hK.out _ _ (by assumption) (fun hHeld => ?_)
      clear hK K
      (try simp only [Act.put, List.setIfInBounds_toArray, List.set_cons_zero, List.set_cons_succ])
      refine wpAnyH_ready (rs := [5]) (by kernel_rfl) (by simp) ?_
      refine AllReadyH.cons (o := _) rfl (fun K hK => ?_) AllReadyH.nil
      go_simp
      refine hK.out _ _ ⟨cell_up cE2 _, cell_up cB2 _⟩ (fun hHeld => ?_)
      clear hK K
      (try simp only [Act.put, List.setIfInBounds_toArray, List.set_cons_zero, List.set_cons_succ])
      refine wpAnyH_ready (rs := [6]) (by kernel_rfl) (by simp) ?_
      refine AllReadyH.cons (o := _) rfl (fun K hK => ?_) AllReadyH.nil
      refine step_append_eq rfl (.tmp 53) (.tmp 58) 65 rfl rfl rfl hrun ?_
      refine hK.out _ _ S1 (fun hHeld => ?_)
      clear hK K
      (try simp only [Act.put, List.setIfInBounds_toArray, List.set_cons_zero, List.set_cons_succ])
      refine wpAnyH_ready (rs := [7]) (by kernel_rfl) (by simp) ?_
      refine AllReadyH.cons (o := _) rfl (fun K hK => ?_) AllReadyH.nil
      go_simp
      obtain ⟨F1, F2, F3⟩ := unhide HF
      refine hK.out _ _ ⟨F3.bE.cell, F3.bB.cell⟩ (fun hHeld => ?_)
      clear hK K
      refine wpAnyH_done (by kernel_rfl) ?_ _
      exact ⟨by rw [hbase]; exact F1, F2, F3⟩
    refine AllReadyH.cons (o := _) rfl (fun K hK => ?_) AllReadyH.nil
    go_simp
    refine hK.out _ _ ⟨cell_up cE2 _, cell_up cB2 _⟩ (fun hHeld => ?_)
    clear hK K
    (try simp only [Act.put, List.setIfInBounds_toArray, List.set_cons_zero, List.set_cons_succ])
    have cP3 := cell_up cP2 (.cells #[.slice ra rl rc] 29)
    refine wpAnyH_ready (rs := [0]) (by kernel_rfl) (by simp) ?_
    refine AllReadyH.cons (o := _) rfl (fun K hK => ?_) AllReadyH.nil
    go_simp
    refine hK.out _ _ (by assumption) (fun hHeld => ?_)
    clear hK K
    (try simp only [Act.put, List.setIfInBounds_toArray, List.set_cons_zero, List.set_cons_succ])
    refine wpAnyH_ready (rs := [6]) (by kernel_rfl) (by simp) ?_
    refine AllReadyH.cons (o := _) rfl (fun K hK => ?_) AllReadyH.nil
    refine step_append_eq rfl (.tmp 53) (.tmp 58) 65 rfl rfl rfl hrun ?_
    refine hK.out _ _ S1 (fun hHeld => ?_)
    clear hK K
    (try simp only [Act.put, List.setIfInBounds_toArray, List.set_cons_zero, List.set_cons_succ])
    refine wpAnyH_ready (rs := [7]) (by kernel_rfl) (by simp) ?_
    refine AllReadyH.cons (o := _) rfl (fun K hK => ?_) AllReadyH.nil
    go_simp
    obtain ⟨F1, F2, F3⟩ := unhide HF
    refine hK.out _ _ ⟨F3.bE.cell, F3.bB.cell⟩ (fun hHeld => ?_)
    clear hK K
    refine wpAnyH_done (by kernel_rfl) ?_ _
    exact ⟨by rw [hbase]; exact F1, F2, F3⟩
    -- end
  case done =>
    rintro D zs W hD rfl hI hK
    obtain ⟨gv, bv, cv, us, p1, hul, hP⟩ := hI.parts hd hd' hyl hk
    have CJ := hide (join_k W gv bv 0 cv q k (k : Int) us _ hul (by omega) (by omega) hP)
    rw [chunks_all (by omega) (by omega)] at CJ
    have hcst : bsum T.B T.D T.N n k q = bcst T.B T.D T.N 2 n k := by rw [bsum_all _ _ _ _ _ _ hk0 hq1 hq2]; simp [bcst]
    have cP := p1.cell
    have HI := hide hI
    rw [hbase] at hD
    have hDl : D < W.heap.size := (Array.getElem?_eq_some_iff.1 hK).1
    clear hI p1 hP IH E2 E4 I0 bE2 bB2 bE4 bB4 bP bS bN
    gi_wp2_with (refine ⟨trivial, ?_⟩; gi_at_call 69; refine (callsIn_wide.2 (unhide CJ)).mono ?_; rintro e W5 ⟨r, rfl, nr, b5⟩)
    have hK5 := (b5.block D hDl).trans hK
    obtain ⟨m1, E6, q1, q2, nr6, o6⟩ := BI.six (.deferred none) (unhide HE) (unhide HI) (by omega) hD hK5 b5 nr
    rw [hcst] at E6
    refine ⟨by simp, .inl ⟨_, _, rfl, run_takeDeferred hK5, ?_⟩⟩
    refine ⟨by simp, .inr ⟨fun h => by simp [Fence.wide] at h, _, _, 67, #[.pointer (some ⟨g, 0, none⟩)], rfl, by simp [go_sem], fun _ _ => trivial, ?_⟩⟩
    refine (leave_din _ l .returning E6.met (by omega) (by omega) (by omega)).mono ?_
    rintro e u' W7 ⟨rfl, rfl, M7, T7⟩
    exact ⟨_, results_tmp rfl _ _ _, r, rfl, left_one (unhide HE) E6 q1 q2 nr6 (by have := (unhide HI).out.size; omega) o6 M7 T7⟩
  case stop =>
    rintro D c pre W _ _ h _
    exact h.elim

end Go.Proofs.YtiekgpphggejcaaGreatDoor
