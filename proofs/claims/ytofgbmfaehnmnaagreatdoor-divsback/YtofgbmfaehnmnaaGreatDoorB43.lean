/- blocks of the landed code: a product in pieces of the longer one. -/
import Derived.Test.YtofgbmfaehnmnaaGreatDoorB42
import Derived.Test.YtofgbmfaehnmnaaGreatDoorB6
import Derived.Stop.RegionWithIn
import Derived.Test.YtofgbmfaehnmnaaGreatDoorB41
import Derived.Test.YtofgbmfaehnmnaaGreatDoorB17
import Derived.Test.YtofgbmfaehnmnaaGreatDoorB35
namespace Go.Proofs.YtofgbmfaehnmnaaGreatDoor
open Go.RowKit Go.Shelf

attribute [local go_sem] Oper.semAt_some
set_option linter.unusedSimpArgs false

set_option maxRecDepth 100000 in
set_option maxHeartbeats 3200000 in
theorem blocks_ab (w : World) (gm gt gk ge g : Nat) (s l m : Int) (T : Tab) (gb : Option Addr) (b o cap n b' o' cap' k q : Nat) (xs ys : List Nat) (IH : TimesSpec k) (hk : k ≤ 16384) (hk0 : 0 < k) (hn : n ≤ 16384) (hnk : k ≤ n)
    (hE : MEng w gm gt gk ge g s l m T) (hT : TB w) (h0 : 0 ≤ s) (h1 : s + 35184372088832 * ((k : Int) + 2) ≤ 2305843009213693952) (h2 : 0 ≤ l) (h3 : l + 1 + (k : Int) ≤ 100000)
    (hR : Rep w (some ⟨b, o, none⟩) b o cap xs) (hxl : xs.length = n) (hd : WDig xs) (hR' : Rep w gb b' o' cap' ys) (hyl : ys.length = k) (hd' : WDig ys) (hq1 : n ≤ k * q) (hq2 : k * q < n + k) (hq3 : q ≤ 16384) :
    Calls Tryz.prog 37 #[.pointer (some ⟨gm, 0, none⟩), .slice (some ⟨b, o, none⟩) n cap, .slice gb k cap', .int .i64 (k : Int)] w fun e w' => ∃ r, e = .returned r ∧ OneDone w gm gt gk ge g s l m T (wval xs * wval ys) (bcst T.B T.D T.N 2 n k) (lev k + 1) r w' := by
  have CE := hide (fun W (M : Met W g 0 s l m) => enter_any (l + 1) (max m (l + 1)) M rfl rfl (by omega) (by omega))
  have CC := hide (fun W => chunk_any 3 (some ⟨b, o, none⟩) n cap k W hk0)
  have hswi : ¬ (n : Int) < (k : Int) := by omega
  obtain ⟨i0, hi, hz0, hz1, hz2⟩ := info_of Tryz.infoNt
  have HT := hide hT
  have HE := hide hE
  have HR := hide hR
  have HR' := hide hR'
  have bE := Boxed.new w 39 (.pointer (some ⟨gm, 0, none⟩))
  have bB := Boxed.new (w.alloc (.cells #[.pointer (some ⟨gm, 0, none⟩)] 39)) 30 (.slice gb k cap')
  rw [World.size_alloc] at bB
  replace bE := bE.alloc (.cells #[.slice gb k cap'] 30)
  have b1 : Below w.heap.size w ((w.alloc (.cells #[.pointer (some ⟨gm, 0, none⟩)] 39)).alloc (.cells #[.slice gb k cap'] 30)) := ((Below.refl _ w).alloc (Nat.le_refl _) _).alloc (by simp) _
  obtain ⟨W1, hW1⟩ : ∃ W1, (w.alloc (.cells #[.pointer (some ⟨gm, 0, none⟩)] 39)).alloc (.cells #[.slice gb k cap'] 30) = W1 := ⟨_, rfl⟩
  rw [hW1] at bE bB b1
  obtain ⟨P0, hP0⟩ : ∃ P0, w.heap.size = P0 := ⟨_, rfl⟩
  rw [hP0] at bE bB
  have lP := bB.lt
  have hgl := hE.met.lt
  have E1 := hE.next b1
  obtain ⟨e0, e1, e2, e3⟩ := E1.way
  have cE := bE.cell
  have cB := bB.cell
  clear hE hT hR hR'
  refine (callsIn_wide (n := 4)).1 ?_
  refine callsIn_of_wp_marks Tryz.func37 rfl trivial ?_ rfl
  simp only [Tryz.ntmps37, List.size_toArray, List.length_cons, List.length_nil, Nat.reduceAdd, Nat.reduceSub, Array.replicate_succ, Array.replicate_zero, List.push_toArray, List.append_toArray, List.nil_append, List.cons_append]
  gi_wp2_with (refine ⟨trivial, ?_⟩; gi_at_call 49; refine (callsIn_wide.2 (unhide CE _ E1.met)).mono ?_; rintro e W2 ⟨rfl, M2, T2⟩; have E2 := E1.step M2 T2; have o2 := Out.of_grown T2.grown; have bE2 := boxed_out bE o2 (by omega); have bB2 := boxed_out bB o2 (by omega); obtain ⟨e0, e1, e2, e3⟩ := E2.way; obtain ⟨BP, hBP⟩ : ∃ BP, W2.heap.size = BP := ⟨_, rfl⟩; have cE := bE2.cell; have cB := bB2.cell; clear E1 bE bB M2 T2)
  refine ⟨trivial, ?_⟩
  have b3 : Below W2.heap.size W2 (((W2.alloc (.cells #[.slice none 0 0] 100)).alloc (.cells #[.slice (some ⟨b, o, none⟩) n cap] 30)).alloc (.cells #[.int .i64 (k : Int)] 3)) := (((Below.refl _ W2).alloc (Nat.le_refl _) _).alloc (by simp) _).alloc (by simp; omega) _
  have bP := ((Boxed.new W2 100 (.slice none 0 0)).alloc (.cells #[.slice (some ⟨b, o, none⟩) n cap] 30)).alloc (.cells #[.int .i64 (k : Int)] 3)
  have bS := (Boxed.new (W2.alloc (.cells #[.slice none 0 0] 100)) 30 (.slice (some ⟨b, o, none⟩) n cap)).alloc (.cells #[.int .i64 (k : Int)] 3)
  have bN := Boxed.new ((W2.alloc (.cells #[.slice none 0 0] 100)).alloc (.cells #[.slice (some ⟨b, o, none⟩) n cap] 30)) 3 (.int .i64 (k : Int))
  have CC3 := hide (unhide CC (W2.alloc (.cells #[.slice none 0 0] 100)))
  have hsz : (((W2.alloc (.cells #[.slice none 0 0] 100)).alloc (.cells #[.slice (some ⟨b, o, none⟩) n cap] 30)).alloc (.cells #[.int .i64 (k : Int)] 3)).heap.size = BP + 1 + 1 + 1 := by simp [hBP]
  rw [World.size_alloc, World.size_alloc, hBP] at bN
  rw [World.size_alloc, hBP] at bS
  rw [hBP] at bP
  rw [World.size_alloc, hBP] at CC3
  have bE4 := (((bE2.alloc (.cells #[.slice none 0 0] 100)).alloc (.cells #[.slice (some ⟨b, o, none⟩) n cap] 30)).alloc (.cells #[.int .i64 (k : Int)] 3))
  have bB4 := (((bB2.alloc (.cells #[.slice none 0 0] 100)).alloc (.cells #[.slice (some ⟨b, o, none⟩) n cap] 30)).alloc (.cells #[.int .i64 (k : Int)] 3))
  have E4 := E2.next b3
  obtain ⟨W4, hW4⟩ : ∃ W4, ((W2.alloc (.cells #[.slice none 0 0] 100)).alloc (.cells #[.slice (some ⟨b, o, none⟩) n cap] 30)).alloc (.cells #[.int .i64 (k : Int)] 3) = W4 := ⟨_, rfl⟩
  rw [hW4] at b3 bP bS bN CC3 hsz bE4 bB4 E4
  have o4 : Out (· = g) w W4 := ((Out.of_below b1).trans o2).next b3
  have lB := bE2.lt
  have lB' := bB2.lt
  rw [hBP] at lB lB'
  obtain ⟨base, hbase⟩ : ∃ base, W4.heap.size = base := ⟨_, rfl⟩
  have I0 : Hid (BI w gm gt gk ge g s l m T (lev k) P0 (P0 + 1) BP (BP + 1) (BP + 1 + 1) base (.slice gb k cap') (.slice (some ⟨b, o, none⟩) n cap) k n (wval ys) xs [] W4) := ⟨⟨_, by rw [show psum T k n [] = 0 from rfl, Int.natCast_zero, Int.add_zero]; exact E4, Int.le_refl _, by omega⟩, bE4, bB4, bS, bN, ⟨_, [], bP, World.ownsRow_nil _ _ _ _, PR.nil _ _⟩, o4⟩
  refine (unhide CC3).mono ?_
  rintro e W4' ⟨rfl, hx⟩
  obtain rfl := hx.symm
  clear hx CC CC3 CE
  gi_wp2
  have hcap := (unhide HR).room
  rw [hxl] at hcap
  refine wpIn_rangeFunc_ownG rfl (by omega) (gf := 67) (lb := #[.pointer (some ⟨BP + 1, 0, none⟩), .pointer (some ⟨BP + 1 + 1, 0, none⟩)]) rfl trivial (enters_of Tryz.func67 (by kernel_rfl) rfl)
    (chunk_stops 3 (by omega) (BP + 1) (BP + 1 + 1) b o n cap k q hk0 hk hn hcap hq1 hq2 W4 bS.lt bN.lt bS.cell bN.cell) keepC_t (keepC_b bS.lt bN.lt) (Below.refl _ _) (fun _ => rfl)
    (BI w gm gt gk ge g s l m T (lev k) P0 (P0 + 1) BP (BP + 1) (BP + 1 + 1) base (.slice gb k cap') (.slice (some ⟨b, o, none⟩) n cap) k n (wval ys) xs) (fun _ _ _ => False)
    (by rw [hbase]; exact BI.own (unhide HE) (by omega)) (fun _ _ _ _ _ hs _ _ => hs) (unhide I0)
    (fun x => { tmps := #[.pointer (some ⟨gm, 0, none⟩), .slice (some ⟨b, o, none⟩) n cap, .slice gb k cap', .int .i64 (k : Int), .pointer (some ⟨P0, 0, none⟩), undef, .pointer (some ⟨P0 + 1, 0, none⟩), undef, .slice none 0 0, .pointer (some ⟨BP, 0, none⟩), pieceV b o n k x, .slice (some ⟨b, o, none⟩) n cap, .int .i64 (n : Int), .slice gb k cap', .int .i64 (k : Int), .bool false, undef, undef, .pointer (some ⟨gm, 0, none⟩), .pointer (some ⟨gm, 0, none⟩), .pointer (some ⟨gm, 0, none⟩), .pointer (some ⟨gt, 0, none⟩), .pointer (some ⟨gt, 0, none⟩), .pointer (some ⟨gt, 0, none⟩), .pointer (some ⟨gk, 0, none⟩), .pointer (some ⟨gk, 0, none⟩), .pointer (some ⟨gk, 0, none⟩), .pointer (some ⟨ge, 0, none⟩), .pointer (some ⟨ge, 0, none⟩), .pointer (some ⟨ge, 0, none⟩), .pointer (some ⟨g, 0, none⟩), .pointer (some ⟨g, 0, none⟩), .pointer (some ⟨g, 0, none⟩), .int .i64 (l + 1), .pointer (some ⟨gm, 0, none⟩), .pointer (some ⟨gm, 0, none⟩), .pointer (some ⟨gm, 0, none⟩), .pointer (some ⟨gt, 0, none⟩), .pointer (some ⟨gt, 0, none⟩), .pointer (some ⟨gt, 0, none⟩), .pointer (some ⟨gk, 0, none⟩), .pointer (some ⟨gk, 0, none⟩), .pointer (some ⟨gk, 0, none⟩), .pointer (some ⟨ge, 0, none⟩), .pointer (some ⟨ge, 0, none⟩), .pointer (some ⟨ge, 0, none⟩), .pointer (some ⟨g, 0, none⟩), .pointer (some ⟨g, 0, none⟩), .pointer (some ⟨g, 0, none⟩), .slice (some ⟨b, o, none⟩) n cap, .int .i64 (k : Int), .func (.func 67) #[] #[.pointer (some ⟨BP + 1, 0, none⟩), .pointer (some ⟨BP + 1 + 1, 0, none⟩)], pieceV b o n k x, undef, undef, undef, undef, undef, undef, undef, undef, undef, undef], defers := [] }) ?assign ?body ?done ?stop
  case assign =>
    intro l x W K hK
    gi_wp2
    exact hK
  case body =>
    rintro lp pre x W hI hlt
    have hb : w.heap.size ≤ base := by omega
    have HD := hide (hI.drew (unhide HE) hb)
    have CT := hide (BI.times IH hk (unhide HE) (unhide HT) h0 h1 h2 h3 (unhide HR) hxl hd (unhide HR') hyl hd' hq3 (unhide HD) x hlt)
    obtain ⟨v, us, p1, p2, p3⟩ := hI.prod
    obtain ⟨gv, bv, cv, rfl, _, _, _⟩ := owns_vals p2
    have HRD := hide (BI.round (x := x) (unhide HE) hb (by omega) (by omega) (by omega) (by omega) (by omega) (by omega) (by omega) (by omega) (by omega) hI (by have := hI.bN.lt; omega) (by omega) p1 p2 p3)
    have cP := p1.cell
    have fP := p1.frozen
    have cE := hI.bE.cell
    have cB := hI.bB.cell
    clear hI p1 p2 p3 IH E2 E4 I0 bE2 bB2 bE4 bB4 bP bS bN
    gi_wp2
    -- round
    refine region_round (fun w' => w'.cell? ⟨P0, 0, none⟩ = some (.pointer (some ⟨gm, 0, none⟩)) ∧ w'.cell? ⟨P0 + 1, 0, none⟩ = some (.slice gb k cap')) (by kernel_rfl) (by kernel_rfl) (fun ⟨_, _, h⟩ => h) ⟨cE, cB⟩ (fun hHeld => ?_)
    refine wpAnyH_take (i := 1) (oi := _) (v := .pointer (some ⟨gm, 0, none⟩)) rfl (by kernel_rfl) (by kernel_rfl) (by kernel_rfl) (fun _ _ _ h => h) (Or.inl ⟨by rfl, ?_⟩) (by assumption) ?_
    · intro w hSw
      (try dsimp only at hSw)
      go_simp
    simp only [Act.put, List.setIfInBounds_toArray, List.set_cons_zero, List.set_cons_succ]
    refine wpAnyH_take (i := 2) (oi := _) (v := pieceV b o n k x) rfl (by kernel_rfl) (by kernel_rfl) (by kernel_rfl) (fun _ _ _ h => h) (Or.inl ⟨by rfl, ?_⟩) (by assumption) ?_
    · intro w hSw
      (try dsimp only at hSw)
      go_simp
    simp only [Act.put, List.setIfInBounds_toArray, List.set_cons_zero, List.set_cons_succ]
    refine wpAnyH_take (i := 3) (oi := _) (v := .slice gb k cap') rfl (by kernel_rfl) (by kernel_rfl) (by kernel_rfl) (fun _ _ _ h => h) (Or.inl ⟨by rfl, ?_⟩) (by assumption) ?_
    · intro w hSw
      (try dsimp only at hSw)
      go_simp
    simp only [Act.put, List.setIfInBounds_toArray, List.set_cons_zero, List.set_cons_succ]
    refine wpAnyH_ready (rs := [0, 4]) (by kernel_rfl) (by simp) ?_
    refine AllReadyH.cons (o := _) rfl (fun K hK => ?_) ?_
    · skip
      go_simp
      refine hK.out _ _ (by assumption) (fun hHeld => ?_)
      clear hK K
      (try simp only [Act.put, List.setIfInBounds_toArray, List.set_cons_zero, List.set_cons_succ])
      refine wpAnyH_ready (rs := [4]) (by kernel_rfl) (by simp) ?_
      refine AllReadyH.cons (o := _) rfl (fun K hK => ?_) AllReadyH.nil
      go_simp
      refine (unhide CT).mono ?_
      rintro e W2 ⟨r, rfl, td⟩
      obtain ⟨ra, rl, rc, rfl⟩ := td.1.shape
      obtain ⟨w1, g1, c1, hrun, cP1, fP1, S1, cE2, cB2, cP2, HF⟩ := unhide HRD W2 ra rl rc td
      clear td
      go_wp2_with fail
      refine hK.out _ _ ⟨cE2, cB2⟩ (fun hHeld => ?_)
      clear hK K
      (try simp only [Act.put, List.setIfInBounds_toArray, List.set_cons_zero, List.set_cons_succ])
      refine wpAnyH_ready (rs := [5]) (by kernel_rfl) (by simp) ?_
      refine AllReadyH.cons (o := _) rfl (fun K hK => ?_) AllReadyH.nil
      go_simp
      refine hK.out _ _ ⟨cell_up cE2 _, cell_up cB2 _⟩ (fun hHeld => ?_)
      clear hK K
      (try simp only [Act.put, List.setIfInBounds_toArray, List.set_cons_zero, List.set_cons_succ])
      refine wpAnyH_ready (rs := [6]) (by kernel_rfl) (by simp) ?_
      refine AllReadyH.cons (o := _) rfl (fun K hK => ?_) AllReadyH.nil
      refine step_append_eq rfl (.tmp 53) (.tmp 58) 100 rfl rfl rfl hrun ?_
      refine hK.out _ _ S1 (fun hHeld => ?_)
      clear hK K
      (try simp only [Act.put, List.setIfInBounds_toArray, List.set_cons_zero, List.set_cons_succ])
      refine wpAnyH_ready (rs := [7]) (by kernel_rfl) (by simp) ?_
      refine AllReadyH.cons (o := _) rfl (fun K hK => ?_) AllReadyH.nil
      go_simp
      obtain ⟨F1, F2, F3⟩ := unhide HF
      refine hK.out _ _ ⟨F3.bE.cell, F3.bB.cell⟩ (fun hHeld => ?_)
      clear hK K
      refine wpAnyH_done (by kernel_rfl) ?_ _
      exact ⟨by rw [hbase]; exact F1, F2, F3⟩
    refine AllReadyH.cons (o := _) rfl (fun K hK => ?_) AllReadyH.nil
    go_simp
    refine (unhide CT).mono ?_
    rintro e W2 ⟨r, rfl, td⟩
    obtain ⟨ra, rl, rc, rfl⟩ := td.1.shape
    obtain ⟨w1, g1, c1, hrun, cP1, fP1, S1, cE2, cB2, cP2, HF⟩ := unhide HRD W2 ra rl rc td
    clear td
    go_wp2_with fail
    refine hK.out _ _ ⟨cE2, cB2⟩ (fun hHeld => ?_)
    clear hK K
    (try simp only [Act.put, List.setIfInBounds_toArray, List.set_cons_zero, List.set_cons_succ])
    refine wpAnyH_ready (rs := [0, 5]) (by kernel_rfl) (by simp) ?_
    refine AllReadyH.cons (o := _) rfl (fun K hK => ?_) ?_
    · skip
      go_simp
      refine hK.out _ _ (by assumption) (fun hHeld => ?_)
      clear hK K
      (try simp only [Act.put, List.setIfInBounds_toArray, List.set_cons_zero, List.set_cons_succ])
      refine wpAnyH_ready (rs := [5]) (by kernel_rfl) (by simp) ?_
      refine AllReadyH.cons (o := _) rfl (fun K hK => ?_) AllReadyH.nil
      go_simp
      refine hK.out _ _ ⟨cell_up cE2 _, cell_up cB2 _⟩ (fun hHeld => ?_)
      clear hK K
      (try simp only [Act.put, List.setIfInBounds_toArray, List.set_cons_zero, List.set_cons_succ])
      refine wpAnyH_ready (rs := [6]) (by kernel_rfl) (by simp) ?_
      refine AllReadyH.cons (o := _) rfl (fun K hK => ?_) AllReadyH.nil
      refine step_append_eq rfl (.tmp 53) (.tmp 58) 100 rfl rfl rfl hrun ?_
      refine hK.out _ _ S1 (fun hHeld => ?_)
      clear hK K
      (try simp only [Act.put, List.setIfInBounds_toArray, List.set_cons_zero, List.set_cons_succ])
      refine wpAnyH_ready (rs := [7]) (by kernel_rfl) (by simp) ?_
      refine AllReadyH.cons (o := _) rfl (fun K hK => ?_) AllReadyH.nil
      go_simp
      obtain ⟨F1, F2, F3⟩ := unhide HF
      refine hK.out _ _ ⟨F3.bE.cell, F3.bB.cell⟩ (fun hHeld => ?_)
      clear hK K
      refine wpAnyH_done (by kernel_rfl) ?_ _
      exact ⟨by rw [hbase]; exact F1, F2, F3⟩
    refine AllReadyH.cons (o := _) rfl (fun K hK => ?_) AllReadyH.nil
    go_simp
    refine hK.out _ _ ⟨cell_up cE2 _, cell_up cB2 _⟩ (fun hHeld => ?_)
    clear hK K
    (try simp only [Act.put, List.setIfInBounds_toArray, List.set_cons_zero, List.set_cons_succ])
    have cP3 := cell_up cP2 (.cells #[.slice ra rl rc] 30)
    refine wpAnyH_ready (rs := [0]) (by kernel_rfl) (by simp) ?_
    refine AllReadyH.cons (o := _) rfl (fun K hK => ?_) AllReadyH.nil
    go_simp
    refine hK.out _ _ (by assumption) (fun hHeld => ?_)
    clear hK K
    (try simp only [Act.put, List.setIfInBounds_toArray, List.set_cons_zero, List.set_cons_succ])
    refine wpAnyH_ready (rs := [6]) (by kernel_rfl) (by simp) ?_
    refine AllReadyH.cons (o := _) rfl (fun K hK => ?_) AllReadyH.nil
    refine step_append_eq rfl (.tmp 53) (.tmp 58) 100 rfl rfl rfl hrun ?_
    refine hK.out _ _ S1 (fun hHeld => ?_)
    clear hK K
    (try simp only [Act.put, List.setIfInBounds_toArray, List.set_cons_zero, List.set_cons_succ])
    refine wpAnyH_ready (rs := [7]) (by kernel_rfl) (by simp) ?_
    refine AllReadyH.cons (o := _) rfl (fun K hK => ?_) AllReadyH.nil
    go_simp
    obtain ⟨F1, F2, F3⟩ := unhide HF
    refine hK.out _ _ ⟨F3.bE.cell, F3.bB.cell⟩ (fun hHeld => ?_)
    clear hK K
    refine wpAnyH_done (by kernel_rfl) ?_ _
    exact ⟨by rw [hbase]; exact F1, F2, F3⟩
    -- end
  case done =>
    rintro D zs W hD rfl hI hK
    obtain ⟨gv, bv, cv, us, p1, hul, hP⟩ := hI.parts hd hd' hyl hk
    have CJ := hide (join_k W gv bv 0 cv q k (k : Int) us _ hul (by omega) (by omega) hP)
    rw [chunks_all (by omega) (by omega)] at CJ
    have hcst : bsum T.B T.D T.N n k q = bcst T.B T.D T.N 2 n k := by rw [bsum_all _ _ _ _ _ _ hk0 hq1 hq2]; simp [bcst]
    have cP := p1.cell
    have HI := hide hI
    rw [hbase] at hD
    have hDl : D < W.heap.size := (Array.getElem?_eq_some_iff.1 hK).1
    clear hI p1 hP IH E2 E4 I0 bE2 bB2 bE4 bB4 bP bS bN
    gi_wp2_with (refine ⟨trivial, ?_⟩; gi_at_call 52; refine (callsIn_wide.2 (unhide CJ)).mono ?_; rintro e W5 ⟨r, rfl, nr, b5⟩)
    have hK5 := (b5.block D hDl).trans hK
    obtain ⟨m1, E6, q1, q2, nr6, o6⟩ := BI.six (.deferred none) (unhide HE) (unhide HI) (by omega) hD hK5 b5 nr
    rw [hcst] at E6
    refine ⟨by simp, .inl ⟨_, _, rfl, run_takeDeferred hK5, ?_⟩⟩
    refine ⟨by simp, .inr ⟨fun h => by simp [Fence.wide] at h, _, _, 50, #[.pointer (some ⟨g, 0, none⟩)], rfl, by simp [go_sem], fun _ _ => trivial, ?_⟩⟩
    refine (leave_din _ l .returning E6.met (by omega) (by omega) (by omega)).mono ?_
    rintro e u' W7 ⟨rfl, rfl, M7, T7⟩
    exact ⟨_, results_tmp rfl _ _ _, r, rfl, left_one (unhide HE) E6 q1 q2 nr6 (by have := (unhide HI).out.size; omega) o6 M7 T7⟩
  case stop =>
    rintro D c pre W _ _ h _
    exact h.elim

end Go.Proofs.YtofgbmfaehnmnaaGreatDoor

/- blocks of the landed code, where the longer one comes second. Written by gen_yblkb.py. -/
namespace Go.Proofs.YtofgbmfaehnmnaaGreatDoor
open Go.RowKit Go.Shelf

attribute [local go_sem] Oper.semAt_some
set_option linter.unusedSimpArgs false

set_option maxRecDepth 100000 in
set_option maxHeartbeats 3200000 in
theorem blocks_ba (w : World) (gm gt gk ge g : Nat) (s l m : Int) (T : Tab) (gb : Option Addr) (b o cap n b' o' cap' k q : Nat) (xs ys : List Nat) (IH : TimesSpec k) (hk : k ≤ 16384) (hk0 : 0 < k) (hn : n ≤ 16384) (hnk : k < n)
    (hE : MEng w gm gt gk ge g s l m T) (hT : TB w) (h0 : 0 ≤ s) (h1 : s + 35184372088832 * ((k : Int) + 2) ≤ 2305843009213693952) (h2 : 0 ≤ l) (h3 : l + 1 + (k : Int) ≤ 100000)
    (hR : Rep w (some ⟨b, o, none⟩) b o cap xs) (hxl : xs.length = n) (hd : WDig xs) (hR' : Rep w gb b' o' cap' ys) (hyl : ys.length = k) (hd' : WDig ys) (hq1 : n ≤ k * q) (hq2 : k * q < n + k) (hq3 : q ≤ 16384) :
    Calls Tryz.prog 37 #[.pointer (some ⟨gm, 0, none⟩), .slice gb k cap', .slice (some ⟨b, o, none⟩) n cap, .int .i64 (k : Int)] w fun e w' => ∃ r, e = .returned r ∧ OneDone w gm gt gk ge g s l m T (wval xs * wval ys) (bcst T.B T.D T.N 2 n k) (lev k + 1) r w' := by
  have CE := hide (fun W (M : Met W g 0 s l m) => enter_any (l + 1) (max m (l + 1)) M rfl rfl (by omega) (by omega))
  have CC := hide (fun W => chunk_any 3 (some ⟨b, o, none⟩) n cap k W hk0)
  have hswi : (k : Int) < (n : Int) := by omega
  obtain ⟨i0, hi, hz0, hz1, hz2⟩ := info_of Tryz.infoNt
  have HT := hide hT
  have HE := hide hE
  have HR := hide hR
  have HR' := hide hR'
  have bE := Boxed.new w 39 (.pointer (some ⟨gm, 0, none⟩))
  have bB := Boxed.new (w.alloc (.cells #[.pointer (some ⟨gm, 0, none⟩)] 39)) 30 (.slice (some ⟨b, o, none⟩) n cap)
  rw [World.size_alloc] at bB
  replace bE := bE.alloc (.cells #[.slice (some ⟨b, o, none⟩) n cap] 30)
  have b0 : Below w.heap.size w ((w.alloc (.cells #[.pointer (some ⟨gm, 0, none⟩)] 39)).alloc (.cells #[.slice (some ⟨b, o, none⟩) n cap] 30)) := ((Below.refl _ w).alloc (Nat.le_refl _) _).alloc (by simp) _
  obtain ⟨W0, hW0⟩ : ∃ W0, (w.alloc (.cells #[.pointer (some ⟨gm, 0, none⟩)] 39)).alloc (.cells #[.slice (some ⟨b, o, none⟩) n cap] 30) = W0 := ⟨_, rfl⟩
  rw [hW0] at bE bB b0
  obtain ⟨P0, hP0⟩ : ∃ P0, w.heap.size = P0 := ⟨_, rfl⟩
  rw [hP0] at bE bB
  have cB0 := bB.cell
  have fB0 := bB.frozen
  have b1 : Below w.heap.size w (W0.setCell ⟨P0 + 1, 0, none⟩ (.slice gb k cap')) := b0.setCell (p := ⟨P0 + 1, 0, none⟩) (by simp; omega) _
  replace bB := Boxed.set (.slice gb k cap') bB
  replace bE : Boxed (W0.setCell ⟨P0 + 1, 0, none⟩ (.slice gb k cap')) P0 39 (.pointer (some ⟨gm, 0, none⟩)) := (heap_setCell_other W0 ⟨P0 + 1, 0, none⟩ P0 _ (by simp)).trans bE
  obtain ⟨W1, hW1⟩ : ∃ W1, W0.setCell ⟨P0 + 1, 0, none⟩ (.slice gb k cap') = W1 := ⟨_, rfl⟩
  rw [hW1] at bE bB b1
  have lP := bB.lt
  have hgl := hE.met.lt
  have E1 := hE.next b1
  obtain ⟨e0, e1, e2, e3⟩ := E1.way
  have cE := bE.cell
  have cB := bB.cell
  clear hE hT hR hR'
  refine (callsIn_wide (n := 4)).1 ?_
  refine callsIn_of_wp_marks Tryz.func37 rfl trivial ?_ rfl
  simp only [Tryz.ntmps37, List.size_toArray, List.length_cons, List.length_nil, Nat.reduceAdd, Nat.reduceSub, Array.replicate_succ, Array.replicate_zero, List.push_toArray, List.append_toArray, List.nil_append, List.cons_append]
  gi_wp2_with (refine ⟨trivial, ?_⟩; gi_at_call 49; refine (callsIn_wide.2 (unhide CE _ E1.met)).mono ?_; rintro e W2 ⟨rfl, M2, T2⟩; have E2 := E1.step M2 T2; have o2 := Out.of_grown T2.grown; have bE2 := boxed_out bE o2 (by omega); have bB2 := boxed_out bB o2 (by omega); obtain ⟨e0, e1, e2, e3⟩ := E2.way; obtain ⟨BP, hBP⟩ : ∃ BP, W2.heap.size = BP := ⟨_, rfl⟩; have cE := bE2.cell; have cB := bB2.cell; clear E1 bE bB M2 T2)
  refine ⟨trivial, ?_⟩
  have b3 : Below W2.heap.size W2 (((W2.alloc (.cells #[.slice none 0 0] 100)).alloc (.cells #[.slice (some ⟨b, o, none⟩) n cap] 30)).alloc (.cells #[.int .i64 (k : Int)] 3)) := (((Below.refl _ W2).alloc (Nat.le_refl _) _).alloc (by simp) _).alloc (by simp; omega) _
  have bP := ((Boxed.new W2 100 (.slice none 0 0)).alloc (.cells #[.slice (some ⟨b, o, none⟩) n cap] 30)).alloc (.cells #[.int .i64 (k : Int)] 3)
  have bS := (Boxed.new (W2.alloc (.cells #[.slice none 0 0] 100)) 30 (.slice (some ⟨b, o, none⟩) n cap)).alloc (.cells #[.int .i64 (k : Int)] 3)
  have bN := Boxed.new ((W2.alloc (.cells #[.slice none 0 0] 100)).alloc (.cells #[.slice (some ⟨b, o, none⟩) n cap] 30)) 3 (.int .i64 (k : Int))
  have CC3 := hide (unhide CC (W2.alloc (.cells #[.slice none 0 0] 100)))
  have hsz : (((W2.alloc (.cells #[.slice none 0 0] 100)).alloc (.cells #[.slice (some ⟨b, o, none⟩) n cap] 30)).alloc (.cells #[.int .i64 (k : Int)] 3)).heap.size = BP + 1 + 1 + 1 := by simp [hBP]
  rw [World.size_alloc, World.size_alloc, hBP] at bN
  rw [World.size_alloc, hBP] at bS
  rw [hBP] at bP
  rw [World.size_alloc, hBP] at CC3
  have bE4 := (((bE2.alloc (.cells #[.slice none 0 0] 100)).alloc (.cells #[.slice (some ⟨b, o, none⟩) n cap] 30)).alloc (.cells #[.int .i64 (k : Int)] 3))
  have bB4 := (((bB2.alloc (.cells #[.slice none 0 0] 100)).alloc (.cells #[.slice (some ⟨b, o, none⟩) n cap] 30)).alloc (.cells #[.int .i64 (k : Int)] 3))
  have E4 := E2.next b3
  obtain ⟨W4, hW4⟩ : ∃ W4, ((W2.alloc (.cells #[.slice none 0 0] 100)).alloc (.cells #[.slice (some ⟨b, o, none⟩) n cap] 30)).alloc (.cells #[.int .i64 (k : Int)] 3) = W4 := ⟨_, rfl⟩
  rw [hW4] at b3 bP bS bN CC3 hsz bE4 bB4 E4
  have o4 : Out (· = g) w W4 := ((Out.of_below b1).trans o2).next b3
  have lB := bE2.lt
  have lB' := bB2.lt
  rw [hBP] at lB lB'
  obtain ⟨base, hbase⟩ : ∃ base, W4.heap.size = base := ⟨_, rfl⟩
  have I0 : Hid (BI w gm gt gk ge g s l m T (lev k) P0 (P0 + 1) BP (BP + 1) (BP + 1 + 1) base (.slice gb k cap') (.slice (some ⟨b, o, none⟩) n cap) k n (wval ys) xs [] W4) := ⟨⟨_, by rw [show psum T k n [] = 0 from rfl, Int.natCast_zero, Int.add_zero]; exact E4, Int.le_refl _, by omega⟩, bE4, bB4, bS, bN, ⟨_, [], bP, World.ownsRow_nil _ _ _ _, PR.nil _ _⟩, o4⟩
  refine (unhide CC3).mono ?_
  rintro e W4' ⟨rfl, hx⟩
  obtain rfl := hx.symm
  clear hx CC CC3 CE
  gi_wp2
  have hcap := (unhide HR).room
  rw [hxl] at hcap
  refine wpIn_rangeFunc_ownG rfl (by omega) (gf := 67) (lb := #[.pointer (some ⟨BP + 1, 0, none⟩), .pointer (some ⟨BP + 1 + 1, 0, none⟩)]) rfl trivial (enters_of Tryz.func67 (by kernel_rfl) rfl)
    (chunk_stops 3 (by omega) (BP + 1) (BP + 1 + 1) b o n cap k q hk0 hk hn hcap hq1 hq2 W4 bS.lt bN.lt bS.cell bN.cell) keepC_t (keepC_b bS.lt bN.lt) (Below.refl _ _) (fun _ => rfl)
    (BI w gm gt gk ge g s l m T (lev k) P0 (P0 + 1) BP (BP + 1) (BP + 1 + 1) base (.slice gb k cap') (.slice (some ⟨b, o, none⟩) n cap) k n (wval ys) xs) (fun _ _ _ => False)
    (by rw [hbase]; exact BI.own (unhide HE) (by omega)) (fun _ _ _ _ _ hs _ _ => hs) (unhide I0)
    (fun x => { tmps := #[.pointer (some ⟨gm, 0, none⟩), .slice (some ⟨b, o, none⟩) n cap, .slice (some ⟨b, o, none⟩) n cap, .int .i64 (k : Int), .pointer (some ⟨P0, 0, none⟩), undef, .pointer (some ⟨P0 + 1, 0, none⟩), undef, .slice none 0 0, .pointer (some ⟨BP, 0, none⟩), pieceV b o n k x, .slice gb k cap', .int .i64 (k : Int), .slice (some ⟨b, o, none⟩) n cap, .int .i64 (n : Int), .bool true, .slice (some ⟨b, o, none⟩) n cap, .slice gb k cap', .pointer (some ⟨gm, 0, none⟩), .pointer (some ⟨gm, 0, none⟩), .pointer (some ⟨gm, 0, none⟩), .pointer (some ⟨gt, 0, none⟩), .pointer (some ⟨gt, 0, none⟩), .pointer (some ⟨gt, 0, none⟩), .pointer (some ⟨gk, 0, none⟩), .pointer (some ⟨gk, 0, none⟩), .pointer (some ⟨gk, 0, none⟩), .pointer (some ⟨ge, 0, none⟩), .pointer (some ⟨ge, 0, none⟩), .pointer (some ⟨ge, 0, none⟩), .pointer (some ⟨g, 0, none⟩), .pointer (some ⟨g, 0, none⟩), .pointer (some ⟨g, 0, none⟩), .int .i64 (l + 1), .pointer (some ⟨gm, 0, none⟩), .pointer (some ⟨gm, 0, none⟩), .pointer (some ⟨gm, 0, none⟩), .pointer (some ⟨gt, 0, none⟩), .pointer (some ⟨gt, 0, none⟩), .pointer (some ⟨gt, 0, none⟩), .pointer (some ⟨gk, 0, none⟩), .pointer (some ⟨gk, 0, none⟩), .pointer (some ⟨gk, 0, none⟩), .pointer (some ⟨ge, 0, none⟩), .pointer (some ⟨ge, 0, none⟩), .pointer (some ⟨ge, 0, none⟩), .pointer (some ⟨g, 0, none⟩), .pointer (some ⟨g, 0, none⟩), .pointer (some ⟨g, 0, none⟩), .slice (some ⟨b, o, none⟩) n cap, .int .i64 (k : Int), .func (.func 67) #[] #[.pointer (some ⟨BP + 1, 0, none⟩), .pointer (some ⟨BP + 1 + 1, 0, none⟩)], pieceV b o n k x, undef, undef, undef, undef, undef, undef, undef, undef, undef, undef], defers := [] }) ?assign ?body ?done ?stop
  case assign =>
    intro l x W K hK
    gi_wp2
    exact hK
  case body =>
    rintro lp pre x W hI hlt
    have hb : w.heap.size ≤ base := by omega
    have HD := hide (hI.drew (unhide HE) hb)
    have CT := hide (BI.times IH hk (unhide HE) (unhide HT) h0 h1 h2 h3 (unhide HR) hxl hd (unhide HR') hyl hd' hq3 (unhide HD) x hlt)
    obtain ⟨v, us, p1, p2, p3⟩ := hI.prod
    obtain ⟨gv, bv, cv, rfl, _, _, _⟩ := owns_vals p2
    have HRD := hide (BI.round (x := x) (unhide HE) hb (by omega) (by omega) (by omega) (by omega) (by omega) (by omega) (by omega) (by omega) (by omega) hI (by have := hI.bN.lt; omega) (by omega) p1 p2 p3)
    have cP := p1.cell
    have fP := p1.frozen
    have cE := hI.bE.cell
    have cB := hI.bB.cell
    clear hI p1 p2 p3 IH E2 E4 I0 bE2 bB2 bE4 bB4 bP bS bN
    gi_wp2
    -- round
    refine region_round (fun w' => w'.cell? ⟨P0, 0, none⟩ = some (.pointer (some ⟨gm, 0, none⟩)) ∧ w'.cell? ⟨P0 + 1, 0, none⟩ = some (.slice gb k cap')) (by kernel_rfl) (by kernel_rfl) (fun ⟨_, _, h⟩ => h) ⟨cE, cB⟩ (fun hHeld => ?_)
    refine wpAnyH_take (i := 1) (oi := _) (v := .pointer (some ⟨gm, 0, none⟩)) rfl (by kernel_rfl) (by kernel_rfl) (by kernel_rfl) (fun _ _ _ h => h) (Or.inl ⟨by rfl, ?_⟩) (by assumption) ?_
    · intro w hSw
      (try dsimp only at hSw)
      go_simp
    simp only [Act.put, List.setIfInBounds_toArray, List.set_cons_zero, List.set_cons_succ]
    refine wpAnyH_take (i := 2) (oi := _) (v := pieceV b o n k x) rfl (by kernel_rfl) (by kernel_rfl) (by kernel_rfl) (fun _ _ _ h => h) (Or.inl ⟨by rfl, ?_⟩) (by assumption) ?_
    · intro w hSw
      (try dsimp only at hSw)
      go_simp
    simp only [Act.put, List.setIfInBounds_toArray, List.set_cons_zero, List.set_cons_succ]
    refine wpAnyH_take (i := 3) (oi := _) (v := .slice gb k cap') rfl (by kernel_rfl) (by kernel_rfl) (by kernel_rfl) (fun _ _ _ h => h) (Or.inl ⟨by rfl, ?_⟩) (by assumption) ?_
    · intro w hSw
      (try dsimp only at hSw)
      go_simp
    simp only [Act.put, List.setIfInBounds_toArray, List.set_cons_zero, List.set_cons_succ]
    refine wpAnyH_ready (rs := [0, 4]) (by kernel_rfl) (by simp) ?_
    refine AllReadyH.cons (o := _) rfl (fun K hK => ?_) ?_
    · skip
      go_simp
      refine hK.out _ _ (by assumption) (fun hHeld => ?_)
      clear hK K
      (try simp only [Act.put, List.setIfInBounds_toArray, List.set_cons_zero, List.set_cons_succ])
      refine wpAnyH_ready (rs := [4]) (by kernel_rfl) (by simp) ?_
      refine AllReadyH.cons (o := _) rfl (fun K hK => ?_) AllReadyH.nil
      go_simp
      refine (unhide CT).mono ?_
      rintro e W2 ⟨r, rfl, td⟩
      obtain ⟨ra, rl, rc, rfl⟩ := td.1.shape
      obtain ⟨w1, g1, c1, hrun, cP1, fP1, S1, cE2, cB2, cP2, HF⟩ := unhide HRD W2 ra rl rc td
      clear td
      go_wp2_with fail
      refine hK.out _ _ ⟨cE2, cB2⟩ (fun hHeld => ?_)
      clear hK K
      (try simp only [Act.put, List.setIfInBounds_toArray, List.set_cons_zero, List.set_cons_succ])
      refine wpAnyH_ready (rs := [5]) (by kernel_rfl) (by simp) ?_
      refine AllReadyH.cons (o := _) rfl (fun K hK => ?_) AllReadyH.nil
      go_simp
      refine hK.out _ _ ⟨cell_up cE2 _, cell_up cB2 _⟩ (fun hHeld => ?_)
      clear hK K
      (try simp only [Act.put, List.setIfInBounds_toArray, List.set_cons_zero, List.set_cons_succ])
      refine wpAnyH_ready (rs := [6]) (by kernel_rfl) (by simp) ?_
      refine AllReadyH.cons (o := _) rfl (fun K hK => ?_) AllReadyH.nil
      refine step_append_eq rfl (.tmp 53) (.tmp 58) 100 rfl rfl rfl hrun ?_
      refine hK.out _ _ S1 (fun hHeld => ?_)
      clear hK K
      (try simp only [Act.put, List.setIfInBounds_toArray, List.set_cons_zero, List.set_cons_succ])
      refine wpAnyH_ready (rs := [7]) (by kernel_rfl) (by simp) ?_
      refine AllReadyH.cons (o := _) rfl (fun K hK => ?_) AllReadyH.nil
      go_simp
      obtain ⟨F1, F2, F3⟩ := unhide HF
      refine hK.out _ _ ⟨F3.bE.cell, F3.bB.cell⟩ (fun hHeld => ?_)
      clear hK K
      refine wpAnyH_done (by kernel_rfl) ?_ _
      exact ⟨by rw [hbase]; exact F1, F2, F3⟩
    refine AllReadyH.cons (o := _) rfl (fun K hK => ?_) AllReadyH.nil
    go_simp
    refine (unhide CT).mono ?_
    rintro e W2 ⟨r, rfl, td⟩
    obtain ⟨ra, rl, rc, rfl⟩ := td.1.shape
    obtain ⟨w1, g1, c1, hrun, cP1, fP1, S1, cE2, cB2, cP2, HF⟩ := unhide HRD W2 ra rl rc td
    clear td
    go_wp2_with fail
    refine hK.out _ _ ⟨cE2, cB2⟩ (fun hHeld => ?_)
    clear hK K
    (try simp only [Act.put, List.setIfInBounds_toArray, List.set_cons_zero, List.set_cons_succ])
    refine wpAnyH_ready (rs := [0, 5]) (by kernel_rfl) (by simp) ?_
    refine AllReadyH.cons (o := _) rfl (fun K hK => ?_) ?_
    · skip
      go_simp
      refine hK.out _ _ (by assumption) (fun hHeld => ?_)
      clear hK K
      (try simp only [Act.put, List.setIfInBounds_toArray, List.set_cons_zero, List.set_cons_succ])
      refine wpAnyH_ready (rs := [5]) (by kernel_rfl) (by simp) ?_
      refine AllReadyH.cons (o := _) rfl (fun K hK => ?_) AllReadyH.nil
      go_simp
      refine hK.out _ _ ⟨cell_up cE2 _, cell_up cB2 _⟩ (fun hHeld => ?_)
      clear hK K
      (try simp only [Act.put, List.setIfInBounds_toArray, List.set_cons_zero, List.set_cons_succ])
      refine wpAnyH_ready (rs := [6]) (by kernel_rfl) (by simp) ?_
      refine AllReadyH.cons (o := _) rfl (fun K hK => ?_) AllReadyH.nil
      refine step_append_eq rfl (.tmp 53) (.tmp 58) 100 rfl rfl rfl hrun ?_
      refine hK.out _ _ S1 (fun hHeld => ?_)
      clear hK K
      (try simp only [Act.put, List.setIfInBounds_toArray, List.set_cons_zero, List.set_cons_succ])
      refine wpAnyH_ready (rs := [7]) (by kernel_rfl) (by simp) ?_
      refine AllReadyH.cons (o := _) rfl (fun K hK => ?_) AllReadyH.nil
      go_simp
      obtain ⟨F1, F2, F3⟩ := unhide HF
      refine hK.out _ _ ⟨F3.bE.cell, F3.bB.cell⟩ (fun hHeld => ?_)
      clear hK K
      refine wpAnyH_done (by kernel_rfl) ?_ _
      exact ⟨by rw [hbase]; exact F1, F2, F3⟩
    refine AllReadyH.cons (o := _) rfl (fun K hK => ?_) AllReadyH.nil
    go_simp
    refine hK.out _ _ ⟨cell_up cE2 _, cell_up cB2 _⟩ (fun hHeld => ?_)
    clear hK K
    (try simp only [Act.put, List.setIfInBounds_toArray, List.set_cons_zero, List.set_cons_succ])
    have cP3 := cell_up cP2 (.cells #[.slice ra rl rc] 30)
    refine wpAnyH_ready (rs := [0]) (by kernel_rfl) (by simp) ?_
    refine AllReadyH.cons (o := _) rfl (fun K hK => ?_) AllReadyH.nil
    go_simp
    refine hK.out _ _ (by assumption) (fun hHeld => ?_)
    clear hK K
    (try simp only [Act.put, List.setIfInBounds_toArray, List.set_cons_zero, List.set_cons_succ])
    refine wpAnyH_ready (rs := [6]) (by kernel_rfl) (by simp) ?_
    refine AllReadyH.cons (o := _) rfl (fun K hK => ?_) AllReadyH.nil
    refine step_append_eq rfl (.tmp 53) (.tmp 58) 100 rfl rfl rfl hrun ?_
    refine hK.out _ _ S1 (fun hHeld => ?_)
    clear hK K
    (try simp only [Act.put, List.setIfInBounds_toArray, List.set_cons_zero, List.set_cons_succ])
    refine wpAnyH_ready (rs := [7]) (by kernel_rfl) (by simp) ?_
    refine AllReadyH.cons (o := _) rfl (fun K hK => ?_) AllReadyH.nil
    go_simp
    obtain ⟨F1, F2, F3⟩ := unhide HF
    refine hK.out _ _ ⟨F3.bE.cell, F3.bB.cell⟩ (fun hHeld => ?_)
    clear hK K
    refine wpAnyH_done (by kernel_rfl) ?_ _
    exact ⟨by rw [hbase]; exact F1, F2, F3⟩
    -- end
  case done =>
    rintro D zs W hD rfl hI hK
    obtain ⟨gv, bv, cv, us, p1, hul, hP⟩ := hI.parts hd hd' hyl hk
    have CJ := hide (join_k W gv bv 0 cv q k (k : Int) us _ hul (by omega) (by omega) hP)
    rw [chunks_all (by omega) (by omega)] at CJ
    have hcst : bsum T.B T.D T.N n k q = bcst T.B T.D T.N 2 n k := by rw [bsum_all _ _ _ _ _ _ hk0 hq1 hq2]; simp [bcst]
    have cP := p1.cell
    have HI := hide hI
    rw [hbase] at hD
    have hDl : D < W.heap.size := (Array.getElem?_eq_some_iff.1 hK).1
    clear hI p1 hP IH E2 E4 I0 bE2 bB2 bE4 bB4 bP bS bN
    gi_wp2_with (refine ⟨trivial, ?_⟩; gi_at_call 52; refine (callsIn_wide.2 (unhide CJ)).mono ?_; rintro e W5 ⟨r, rfl, nr, b5⟩)
    have hK5 := (b5.block D hDl).trans hK
    obtain ⟨m1, E6, q1, q2, nr6, o6⟩ := BI.six (.deferred none) (unhide HE) (unhide HI) (by omega) hD hK5 b5 nr
    rw [hcst] at E6
    refine ⟨by simp, .inl ⟨_, _, rfl, run_takeDeferred hK5, ?_⟩⟩
    refine ⟨by simp, .inr ⟨fun h => by simp [Fence.wide] at h, _, _, 50, #[.pointer (some ⟨g, 0, none⟩)], rfl, by simp [go_sem], fun _ _ => trivial, ?_⟩⟩
    refine (leave_din _ l .returning E6.met (by omega) (by omega) (by omega)).mono ?_
    rintro e u' W7 ⟨rfl, rfl, M7, T7⟩
    exact ⟨_, results_tmp rfl _ _ _, r, rfl, left_one (unhide HE) E6 q1 q2 nr6 (by have := (unhide HI).out.size; omega) o6 M7 T7⟩
  case stop =>
    rintro D c pre W _ _ h _
    exact h.elim

end Go.Proofs.YtofgbmfaehnmnaaGreatDoor

/- by of the landed code: a product by one route. Written by gen_yby.py. -/
namespace Go.Proofs.YtofgbmfaehnmnaaGreatDoor
open Go.RowKit

theorem min2_int (a b : Int) (w : World) : (Builtin.min2 (.int .i64 a) (.int .i64 b)).run Tryz.prog w = .ok (.int .i64 (min a b)) w := by
  unfold Builtin.min2
  simp [go_sem]
  omega
theorem min_three (a b c d : Int) (h : d = min (min a b) c) (w : World) : (Builtin.min_ #[3, 3, 3] 3 #[.int .i64 a, .int .i64 b, .int .i64 c]).run Tryz.prog w = .ok (.int .i64 d) w := by
  subst h
  simp [Builtin.min_, go_sem]
  rw [min2_int]
  show Sem.run Tryz.prog (Builtin.min2 (Value.int IntKind.i64 (min a b)) (Value.int IntKind.i64 c)) w = _
  rw [min2_int]
  congr 2
  omega
theorem mk_func (fn : Fn) (first cap : Array Value) (w : World) : (Instr.makeFunc fn first cap).run Tryz.prog w = .ok (.func fn first cap) w := rfl

set_option maxRecDepth 100000 in
set_option maxHeartbeats 1600000 in
theorem by_none (w : World) (gm : Nat) (u v : Value) (r : Int) (h : r < 1 ∨ 5 < r) :
    Calls Tryz.prog 38 #[.pointer (some ⟨gm, 0, none⟩), .int .i64 r, u, v] w fun e w' => e = .returned (.tuple #[.slice none 0 0, .bool false]) ∧ w' = w := by
  have h1 : (r == 1) = false := by simp; omega
  have h2 : (r == 2) = false := by simp; omega
  have h3 : (r == 3) = false := by simp; omega
  have h4 : (r == 4) = false := by simp; omega
  have h5 : (r == 5) = false := by simp; omega
  clear h
  go_enter Tryz.func38, Tryz.ntmps38
  go_wp2
  go_ret2
  exact ⟨rfl, rfl⟩

set_option maxRecDepth 100000 in
set_option maxHeartbeats 1600000 in
theorem by_one {w : World} {gm gt gk ge g : Nat} {s l m : Int} {T : Tab} (hE : MEng w gm gt gk ge g s l m T) {u v : Value} {Q : Value → World → Prop}
    (C : Calls Tryz.prog 53 #[.pointer (some ⟨ge, 0, none⟩), u, v] w fun e w' => ∃ r, e = .returned r ∧ Q r w') :
    Calls Tryz.prog 38 #[.pointer (some ⟨gm, 0, none⟩), .int .i64 1, u, v] w fun e w' => ∃ r, e = .returned (.tuple #[r, .bool true]) ∧ Q r w' := by
  have HC := hide C
  obtain ⟨e0, e1, e2, e3⟩ := hE.way
  have hmf := mk_func
  clear C hE
  go_enter Tryz.func38, Tryz.ntmps38
  go_wp2_with fail
  refine (unhide HC).mono ?_
  rintro e w1 ⟨r, rfl, h⟩
  have H := hide h
  clear h HC
  go_wp2
  go_ret2
  exact ⟨_, rfl, unhide H⟩

set_option maxRecDepth 100000 in
set_option maxHeartbeats 1600000 in
theorem by_two {w : World} {gm gt gk ge g : Nat} {s l m : Int} {T : Tab} (hE : MEng w gm gt gk ge g s l m T) {ga gb : Option Addr} {cap cap' la lb k : Nat} {Q : Value → World → Prop} (hk : k = min la lb) (hla : la ≤ 16384) (hlb : lb ≤ 16384)
    (C : Calls Tryz.prog 37 #[.pointer (some ⟨gm, 0, none⟩), .slice ga la cap, .slice gb lb cap', .int .i64 (k : Int)] w fun e w' => ∃ r, e = .returned r ∧ Q r w') :
    Calls Tryz.prog 38 #[.pointer (some ⟨gm, 0, none⟩), .int .i64 2, .slice ga la cap, .slice gb lb cap'] w fun e w' => ∃ r, e = .returned (.tuple #[r, .bool true]) ∧ Q r w' := by
  have HC := hide C
  obtain ⟨e0, e1, e2, e3⟩ := hE.way
  have hmf := mk_func
  have m1 := min_three (la : Int) (lb : Int) 16384 (k : Int) (by omega)
  clear hk hla hlb
  clear C hE
  go_enter Tryz.func38, Tryz.ntmps38
  go_wp2_with fail
  refine (unhide HC).mono ?_
  rintro e w1 ⟨r, rfl, h⟩
  have H := hide h
  clear h HC
  go_wp2
  go_ret2
  exact ⟨_, rfl, unhide H⟩

set_option maxRecDepth 100000 in
set_option maxHeartbeats 1600000 in
theorem by_three {w : World} {gm gt gk ge g : Nat} {s l m : Int} {T : Tab} (hE : MEng w gm gt gk ge g s l m T) {u v : Value} {Q : Value → Bool → World → Prop}
    (C : Calls Tryz.prog 54 #[.pointer (some ⟨gk, 0, none⟩), u, v, .func (.func 25) #[.pointer (some ⟨gm, 0, none⟩)] #[]] w fun e w' => ∃ r b, e = .returned (.tuple #[r, .bool b]) ∧ Q r b w') :
    Calls Tryz.prog 38 #[.pointer (some ⟨gm, 0, none⟩), .int .i64 3, u, v] w fun e w' => ∃ r b, e = .returned (.tuple #[r, .bool b]) ∧ Q r b w' := by
  have HC := hide C
  obtain ⟨e0, e1, e2, e3⟩ := hE.way
  have hmf := mk_func
  clear C hE
  go_enter Tryz.func38, Tryz.ntmps38
  go_wp2_with fail
  refine (unhide HC).mono ?_
  rintro e w1 ⟨r, b, rfl, h⟩
  have H := hide h
  clear h HC
  go_wp2
  go_ret2
  exact ⟨_, _, rfl, unhide H⟩

set_option maxRecDepth 100000 in
set_option maxHeartbeats 1600000 in
theorem by_four {w : World} {gm gt gk ge g : Nat} {s l m : Int} {T : Tab} (hE : MEng w gm gt gk ge g s l m T) {u v : Value} {Q : Value → Bool → World → Prop}
    (C : Calls Tryz.prog 55 #[.pointer (some ⟨gt, 0, none⟩), u, v, .func (.func 25) #[.pointer (some ⟨gm, 0, none⟩)] #[]] w fun e w' => ∃ r b, e = .returned (.tuple #[r, .bool b]) ∧ Q r b w') :
    Calls Tryz.prog 38 #[.pointer (some ⟨gm, 0, none⟩), .int .i64 4, u, v] w fun e w' => ∃ r b, e = .returned (.tuple #[r, .bool b]) ∧ Q r b w' := by
  have HC := hide C
  obtain ⟨e0, e1, e2, e3⟩ := hE.way
  have hmf := mk_func
  clear C hE
  go_enter Tryz.func38, Tryz.ntmps38
  go_wp2_with fail
  refine (unhide HC).mono ?_
  rintro e w1 ⟨r, b, rfl, h⟩
  have H := hide h
  clear h HC
  go_wp2
  go_ret2
  exact ⟨_, _, rfl, unhide H⟩

set_option maxRecDepth 100000 in
set_option maxHeartbeats 1600000 in
theorem by_five {w : World} {gm gt gk ge g : Nat} {s l m : Int} {T : Tab} (hE : MEng w gm gt gk ge g s l m T) {u v : Value} {Q : Value → Bool → World → Prop}
    (C : Calls Tryz.prog 56 #[.pointer (some ⟨g, 0, none⟩), u, v] w fun e w' => ∃ r b, e = .returned (.tuple #[r, .bool b]) ∧ Q r b w') :
    Calls Tryz.prog 38 #[.pointer (some ⟨gm, 0, none⟩), .int .i64 5, u, v] w fun e w' => ∃ r b, e = .returned (.tuple #[r, .bool b]) ∧ Q r b w' := by
  have HC := hide C
  obtain ⟨e0, e1, e2, e3⟩ := hE.way
  have hmf := mk_func
  clear C hE
  go_enter Tryz.func38, Tryz.ntmps38
  go_wp2_with fail
  refine (unhide HC).mono ?_
  rintro e w1 ⟨r, b, rfl, h⟩
  have H := hide h
  clear h HC
  go_wp2
  go_ret2
  exact ⟨_, _, rfl, unhide H⟩

theorem ceil_k {n k : Nat} (hk : 0 < k) (hn : 0 < n) : ∃ q, n ≤ k * q ∧ k * q < n + k ∧ q ≤ n := by
  refine ⟨(n + k - 1) / k, ?_, ?_, ?_⟩
  · have h1 := Nat.div_add_mod (n + k - 1) k
    have h2 := Nat.mod_lt (n + k - 1) hk
    omega
  · have h1 := Nat.div_add_mod (n + k - 1) k
    omega
  · refine Nat.le_of_lt_succ ((Nat.div_lt_iff_lt_mul hk).2 ?_)
    have : n * 1 ≤ n * k := Nat.mul_le_mul_left n hk
    rw [Nat.succ_mul]
    omega
theorem block_times {w : World} {gm gt gk ge g : Nat} {s l m : Int} {T : Tab} (hE : MEng w gm gt gk ge g s l m T) (hT : TB w) {k : Nat} (IH : TimesSpec k)
    (h0 : 0 ≤ s) (h1 : s + 35184372088832 * ((k : Int) + 2) ≤ 2305843009213693952) (h2 : 0 ≤ l) (h3 : l + 1 + (k : Int) ≤ 100000)
    {ga gb : Option Addr} {b o cap la b' o' cap' lb : Nat} {xs ys : List Nat} (hxl : xs.length = la) (hR : Rep w ga b o cap xs) (hdx : WDig xs) (hyl : ys.length = lb) (hR' : Rep w gb b' o' cap' ys) (hdy : WDig ys) (hla : la ≤ 16384) (hlb : lb ≤ 16384) (ha : 1 ≤ la) (hb : 1 ≤ lb) (hk : k = min la lb) :
    Calls Tryz.prog 37 #[.pointer (some ⟨gm, 0, none⟩), .slice ga la cap, .slice gb lb cap', .int .i64 (k : Int)] w fun e w' => ∃ r, e = .returned r ∧ OneDone w gm gt gk ge g s l m T (wval xs * wval ys) (bcst T.B T.D T.N 2 (max la lb) (min la lb)) (lev k + 1) r w' := by
  obtain ⟨q, q1, q2, q3⟩ := ceil_k (n := max la lb) (k := k) (by omega) (by omega)
  by_cases hsw : la < lb
  · have e1 : k = la := by omega
    have e2 : max la lb = lb := by omega
    have e3 : min la lb = la := by omega
    rw [e2] at q1 q2 q3
    rw [e2, e3]
    subst e1
    obtain rfl := hR'.head (by omega)
    rw [Nat.mul_comm]
    exact blocks_ba w gm gt gk ge g s l m T ga b' o' cap' lb b o cap k q ys xs IH hla (by omega) hlb hsw hE hT h0 h1 h2 h3 hR' hyl hdy hR hxl hdx q1 q2 (by omega)
  · have e1 : k = lb := by omega
    have e2 : max la lb = la := by omega
    have e3 : min la lb = lb := by omega
    rw [e2] at q1 q2 q3
    rw [e2, e3]
    subst e1
    obtain rfl := hR.head (by omega)
    exact blocks_ab w gm gt gk ge g s l m T gb b o cap la b' o' cap' k q xs ys IH hlb (by omega) hla (by omega) hE hT h0 h1 h2 h3 hR hxl hdx hR' hyl hdy q1 q2 (by omega)

end Go.Proofs.YtofgbmfaehnmnaaGreatDoor

/- times and square of the landed code: rows as they are, by the route of their lengths. -/
namespace Go.Proofs.YtofgbmfaehnmnaaGreatDoor
open Go.RowKit

theorem rtT_cl (T : Tab) (n m : Int) : rtT T.clamp n m = rtT T n m := by unfold rtT; rw [T.B_clamp, T.D_clamp, T.N_clamp]

set_option maxHeartbeats 1600000 in
theorem tuneRoute_c {T : Tab} {w : World} {g : Nat} (h : TabC w g T) (n m : Int) :
    Calls Tryz.prog 39 #[.pointer (some ⟨g, 0, none⟩), .int .i64 n, .int .i64 m] w fun e w' => e = .returned (.int .i64 (rtT T n m)) ∧ Below w.heap.size w w' := by
  have CR := hide (fun w => tRoute_any T.clamp n m w)
  rw [rtT_cl] at CR
  have c3 : w.cell? ⟨g, 3, none⟩ = some (.int .i64 T.clamp.b) := h 0 (by decide)
  have c4 : w.cell? ⟨g, 4, none⟩ = some (.int .i64 T.clamp.t) := h 1 (by decide)
  have c5 : w.cell? ⟨g, 5, none⟩ = some (.int .i64 T.clamp.n) := h 2 (by decide)
  have c6 : w.cell? ⟨g, 6, none⟩ = some (.int .i64 T.clamp.d) := h 3 (by decide)
  have c7 : w.cell? ⟨g, 7, none⟩ = some (.int .i64 T.clamp.r) := h 4 (by decide)
  have c8 : w.cell? ⟨g, 8, none⟩ = some (.int .i64 T.clamp.l) := h 5 (by decide)
  have c9 : w.cell? ⟨g, 9, none⟩ = some (.int .i64 T.clamp.x) := h 6 (by decide)
  have c10 : w.cell? ⟨g, 10, none⟩ = some (.int .i64 T.clamp.p) := h 7 (by decide)
  have c11 : w.cell? ⟨g, 11, none⟩ = some (.int .i64 T.clamp.k) := h 8 (by decide)
  have c12 : w.cell? ⟨g, 12, none⟩ = some (.int .i64 T.clamp.s) := h 9 (by decide)
  have c13 : w.cell? ⟨g, 13, none⟩ = some (.int .i64 T.clamp.e) := h 10 (by decide)
  clear h
  unfold Tab.val at CR
  generalize T.clamp.b = t0 at CR c3
  generalize T.clamp.t = t1 at CR c4
  generalize T.clamp.n = t2 at CR c5
  generalize T.clamp.d = t3 at CR c6
  generalize T.clamp.r = t4 at CR c7
  generalize T.clamp.l = t5 at CR c8
  generalize T.clamp.x = t6 at CR c9
  generalize T.clamp.p = t7 at CR c10
  generalize T.clamp.k = t8 at CR c11
  generalize T.clamp.s = t9 at CR c12
  generalize T.clamp.e = t10 at CR c13
  go_enter Tryz.func39, Tryz.ntmps39
  go_wp2_with (go_at_call 57; refine (unhide CR _).mono ?_; rintro e w1 ⟨rfl, b1⟩)
  go_ret
  exact ⟨rfl, b1⟩

set_option maxRecDepth 100000 in
set_option maxHeartbeats 1600000 in
theorem times_walk {w : World} {gm gt gk ge g : Nat} {s l m : Int} {T : Tab} (hE : MEng w gm gt gk ge g s l m T) {ga gb : Option Addr} {cap cap' la lb : Nat} (hla : la ≤ 16384) (hlb : lb ≤ 16384) {Q : Value → World → Prop}
    (C : ∀ W, Below w.heap.size w W → Calls Tryz.prog 38 #[.pointer (some ⟨gm, 0, none⟩), .int .i64 (rtT T (la : Int) (lb : Int)), .slice ga la cap, .slice gb lb cap'] W fun e w' => ∃ r b, e = .returned (.tuple #[r, .bool b]) ∧ Q r w') :
    Calls Tryz.prog 25 #[.pointer (some ⟨gm, 0, none⟩), .slice ga la cap, .slice gb lb cap'] w fun e w' => ∃ r, e = .returned r ∧ Q r w' := by
  have HC := hide C
  have CR := hide (tuneRoute_c hE.toom.kara.tab (la : Int) (lb : Int))
  obtain ⟨e0, e1, e2, e3⟩ := hE.way
  obtain ⟨M, hM⟩ : ∃ M, max la lb = M := ⟨_, rfl⟩
  have m1 : max (la : Int) (lb : Int) = (M : Int) := by omega
  have m2 : ¬ 16384 < (M : Int) := by omega
  generalize rtT T (la : Int) (lb : Int) = R at *
  clear C hE hla hlb hM
  go_enter Tryz.func25, Tryz.ntmps25
  go_wp2_with fail
  refine (unhide CR).mono ?_
  rintro e w1 ⟨rfl, b1⟩
  clear CR
  go_wp2_with fail
  refine (unhide HC _ b1).mono ?_
  rintro e w2 ⟨r, b, rfl, h⟩
  have H := hide h
  clear h HC
  go_wp2
  go_ret
  exact ⟨_, rfl, unhide H⟩

theorem OneDone.back {w W w' : World} {gm gt gk ge g : Nat} {s l m : Int} {T : Tab} {P C L C' L' : Nat} {r : Value} (b : Below w.heap.size w W) (h : OneDone W gm gt gk ge g s l m T P C L r w') (hC : C = C') (hL : L ≤ L') : OneDone w gm gt gk ge g s l m T P C' L' r w' := by
  obtain ⟨m', h1, h2, h3, h4, h5⟩ := h
  subst hC
  exact ⟨m', h1.mono b.size, h2, h3, by omega, (Out.of_below b).trans h5⟩
theorem rtT_mm (T : Tab) {n m : Nat} (hn : n ≤ 16384) (hm : m ≤ 16384) : rtT T (n : Int) (m : Int) = (rt T.B T.D T.N (max n m) (min n m) : Int) := by
  by_cases h : m ≤ n
  · rw [Nat.max_eq_left h, Nat.min_eq_right h, rtT_nat T h hn]
  · rw [Nat.max_eq_right (by omega), Nat.min_eq_left (by omega), rtT_comm, rtT_nat T (by omega) hm]

theorem times_all (N : Nat) : N ≤ 16384 → TimesSpec N := by
  induction N using Nat.strongRecOn with
  | _ N ih =>
    intro hN w gm gt gk ge g s l m T ga gb b o cap la b' o' cap' lb xs ys hE hT h0 h1 h2 h3 hxl hR hdx hyl hR' hdy hla hlb
    refine (times_walk hE (by omega) (by omega) (Q := OneDone w gm gt gk ge g s l m T (wval xs * wval ys) (cst T.B T.D T.N (max la lb) (min la lb)) (lev (max la lb))) (fun W bl => ?_)).mono ?_
    · have E := hE.next bl
      have tb := hT.next bl
      have rX := hR.next bl
      have rY := hR'.next bl
      have hc := bcst_cst (n := max la lb) (m := min la lb) T.ent (by omega)
      have b1 := T.ent.b1
      have t1 := T.ent.t1
      rw [rtT_mm T (by omega) (by omega)]
      rcases rt_ways (max la lb) (min la lb) (by omega) T.ent with ⟨r, k1⟩ | ⟨r, k1, k2⟩ | ⟨r, k1, k2⟩ | ⟨r, k1, k2⟩ | ⟨r, k1, _, k2⟩ | ⟨r, k1, k2, k3, k4⟩
      · rw [r] at hc ⊢
        refine (by_none W gm _ _ _ (by omega)).mono ?_
        rintro e w' ⟨rfl, rfl⟩
        have hz : wval xs * wval ys = 0 := by
          rcases (show la = 0 ∨ lb = 0 by omega) with h | h
          · rw [List.length_eq_zero_iff.1 (by omega : xs.length = 0)]; simp [wval]
          · rw [List.length_eq_zero_iff.1 (by omega : ys.length = 0)]; simp [wval]
        refine ⟨_, _, rfl, OneDone.back bl (C := 0) (L := 0) ⟨m, by rw [hz]; exact newW_nil _ _, by rw [Int.natCast_zero, Int.add_zero]; exact E, Int.le_refl _, by omega, Out.refl _ _⟩ (by rw [← hc]; simp [bcst]) (Nat.zero_le _)⟩
      · rw [r] at hc ⊢
        refine (by_one E (school_times E h0 (by omega) hxl rX hdx hyl rY hdy (by omega) (by omega))).mono ?_
        rintro e w' ⟨v, rfl, hd⟩
        exact ⟨v, true, rfl, hd.back bl hc (Nat.zero_le _)⟩
      · rw [r] at hc ⊢
        refine (by_two E rfl (by omega) (by omega) (block_times E tb (ih (min la lb) (by omega) (by omega)) h0 (by omega) h2 (by omega) hxl rX hdx hyl rY hdy (by omega) (by omega) (by omega) (by omega) rfl)).mono ?_
        rintro e w' ⟨v, rfl, hd⟩
        exact ⟨v, true, rfl, hd.back bl hc (lev_down (by omega) (by omega) (by omega))⟩
      · rw [r] at hc ⊢
        refine (by_three E (Q := fun v b w' => b = true ∧ OneDone W gm gt gk ge g s l m T (wval xs * wval ys) (bcst T.B T.D T.N 3 (max la lb) (min la lb)) (lev ((max la lb + 1) / 2 + 1) + 1) v w') ((kara_times (ih ((max la lb + 1) / 2 + 1) (by omega) (by omega)) (by omega) E tb h0 (by omega) h2 (by omega) hxl rX hdx hyl rY hdy (by omega) (by omega) rfl (by omega) (Nat.le_refl _)).mono fun e w' hd => ?_)).mono ?_
        · obtain ⟨v, rfl, hz⟩ := byDone_iff hd
          exact ⟨v, true, rfl, rfl, hz⟩
        · rintro e w' ⟨v, bb, rfl, rfl, hd⟩
          exact ⟨v, true, rfl, hd.back bl hc (lev_down (by omega) (by omega) (by omega))⟩
      · rw [r] at hc ⊢
        refine (by_four E (Q := fun v b w' => b = true ∧ OneDone W gm gt gk ge g s l m T (wval xs * wval ys) (bcst T.B T.D T.N 4 (max la lb) (min la lb)) (lev ((max la lb + 2) / 3 + 1) + 1) v w') ((toom_times (ih ((max la lb + 2) / 3 + 1) (by omega) (by omega)) (by omega) E tb h0 (by omega) h2 (by omega) hxl rX hdx hyl rY hdy (by omega) (by omega) rfl (by omega) (Nat.le_refl _)).mono fun e w' hd => ?_)).mono ?_
        · obtain ⟨v, rfl, hz⟩ := byDone_iff hd
          exact ⟨v, true, rfl, rfl, hz⟩
        · rintro e w' ⟨v, bb, rfl, rfl, hd⟩
          exact ⟨v, true, rfl, hd.back bl hc (lev_down (by omega) (by omega) (by omega))⟩
      · rw [r] at hc ⊢
        refine (by_five E (Q := fun v b w' => b = true ∧ OneDone W gm gt gk ge g s l m T (wval xs * wval ys) (bcst T.B T.D T.N 5 (max la lb) (min la lb)) 0 v w') ((conv_times E tb h0 (by omega) hxl rX hdx hyl rY hdy (by omega) (by omega) (by omega) (by omega)).mono fun e w' hd => ?_)).mono ?_
        · obtain ⟨v, rfl, hz⟩ := byDone_iff hd
          exact ⟨v, true, rfl, rfl, hz⟩
        · rintro e w' ⟨v, bb, rfl, rfl, hd⟩
          exact ⟨v, true, rfl, hd.back bl hc (Nat.zero_le _)⟩
    · rintro e w' ⟨r, rfl, m', hd⟩
      exact ⟨r, m', rfl, hd⟩

theorem bsqt_sqt {B D N n : Nat} (e : Ent B D N) : bsqt B D N (rt B D N n n) n = sqt B D N n := by
  have e1 := e.b1
  unfold bsqt
  rcases rt_ways n n (Nat.le_refl _) e with ⟨r, _⟩ | ⟨r, _, _⟩ | ⟨r, h1, h2⟩ | ⟨r, h1, h2⟩ | ⟨r, h1, _, h2⟩ | ⟨r, _, _, _, _⟩
  · rw [sqt_zero (Or.inl r), r]; simp
  · rw [sqt_one r, r]; simp
  · omega
  · rw [sqt_three e r h1, r]; simp
  · rw [sqt_four e r h1, r]; simp
  · rw [sqt_five r, r]; simp

end Go.Proofs.YtofgbmfaehnmnaaGreatDoor

/- New, Mul, Sqr and By of the landed package mul. -/
namespace Go.Proofs.YtofgbmfaehnmnaaGreatDoor
open Go.RowKit

set_option maxHeartbeats 800000 in
theorem mtrim_any (w : World) (ga : Option Addr) (b o cap n m : Nat) (xs : List Nat) (hl : xs.length = n) (hn : n ≤ 1099511627776) (hR : Rep w ga b o cap xs) (hm : m = nlen xs n) :
    Calls Tryz.prog 26 #[.slice ga n cap] w fun e w' => e = .returned (.slice ga m cap) ∧ w' = w := by
  have hmn : m ≤ n := by rw [hm]; exact nlen_le xs n
  have hcap : n ≤ cap := by have := hR.room; omega
  have CL := hide (fun w' (h : w' = w) => h ▸ len_any w ga b o cap n xs hl hn hR)
  rw [← hm] at CL
  clear hm hR
  go_enter Tryz.func26, Tryz.ntmps26
  go_wp2_with fail
  refine (unhide CL _ rfl).mono ?_
  rintro e w' ⟨rfl, rfl⟩
  go_wp2
  go_ret
  exact ⟨rfl, rfl⟩
/-- A row without its zero words on top. -/
theorem mtrim_in {w : World} {v : Value} {n : Nat} (h : InM w v n) : ∃ ga b o cap xs, xs.length = wl n ∧ Rep w ga b o cap xs ∧ WDig xs ∧ wval xs = n ∧ wl n ≤ 16384 ∧ (∃ l, v = .slice ga l cap) ∧ Calls Tryz.prog 26 #[v] w fun e w' => e = .returned (.slice ga (wl n) cap) ∧ w' = w := by
  obtain ⟨ga, b, o, cap, xs, rfl, hr, hd, hv, hl⟩ := h
  have e := nlen_wl hd
  have hle := wl_le_len hd
  rw [hv] at e hle
  refine ⟨ga, b, o, cap, xs.take (wl n), by simp; omega, hr.take _ hle, wDig_take hd _, ?_, by omega, ⟨_, rfl⟩, mtrim_any w ga b o cap xs.length (wl n) xs rfl (by omega) hr e.symm⟩
  rw [← e, nlen_wval, List.take_length, hv]
theorem costT_mm2 (T : Tab) {n m : Nat} (hn : n ≤ 16384) (hm : m ≤ 16384) : costT T (n : Int) (m : Int) = (cst T.B T.D T.N (max n m) (min n m) : Nat) := by
  by_cases h : m ≤ n
  · rw [Nat.max_eq_left h, Nat.min_eq_right h, costT_nat T h hn]
  · rw [Nat.max_eq_right (by omega), Nat.min_eq_left (by omega), costT_comm, costT_nat T (by omega) hm]

set_option maxHeartbeats 1600000 in
theorem mmul_any (w : World) (gm gt gk ge g : Nat) (s l m : Int) (T : Tab) (u v : Value) (A C : Nat)
    (hE : MEng w gm gt gk ge g s l m T) (hT : TB w) (h0 : 0 ≤ s) (h1 : s ≤ 1154047404513689600) (h2 : 0 ≤ l) (h3 : l ≤ 1000) (hu : InM w u A) (hv : InM w v C) :
    Calls Tryz.prog 12 #[.pointer (some ⟨gm, 0, none⟩), u, v] w fun e w' => ∃ r m', e = .returned r ∧ NewW w.heap.size w' r (A * C) ∧ MEng w' gm gt gk ge g (s + costT T (wl A : Int) (wl C : Int)) l m' T ∧ m ≤ m' ∧ m' ≤ max m (l + (dpt (max (wl A) (wl C)) : Int)) ∧ Out (· = g) w w' := by
  obtain ⟨ga, b, o, cap, xs, xl, rX, dX, vX, lX, ⟨lu, rfl⟩, CX⟩ := mtrim_in hu
  obtain ⟨gb, b', o', cap', ys, yl, rY, dY, vY, lY, ⟨lv, rfl⟩, CY⟩ := mtrim_in hv
  have CT := hide (times_all 16384 (by omega) w gm gt gk ge g s l m T ga gb b o cap (wl A) b' o' cap' (wl C) xs ys hE hT h0 (by omega) h2 (by omega) xl rX dX yl rY dY lX lY)
  have HCX := hide CX
  have HCY := hide CY
  rw [vX, vY, ← costT_mm2 T lX lY] at CT
  have hd := lev_dpt (n := max (wl A) (wl C)) (by omega)
  suffices H : Calls Tryz.prog 12 #[.pointer (some ⟨gm, 0, none⟩), .slice ga lu cap, .slice gb lv cap'] w fun e w' => ∃ r m', e = .returned r ∧ NewW w.heap.size w' r (A * C) ∧ MEng w' gm gt gk ge g (s + costT T (wl A : Int) (wl C : Int)) l m' T ∧ m ≤ m' ∧ m' ≤ max m (l + (lev (max (wl A) (wl C)) : Nat)) ∧ Out (· = g) w w' by
    refine H.mono ?_
    rintro e w' ⟨r, m', k1, k2, k3, k4, k5, k6⟩
    exact ⟨r, m', k1, k2, k3, k4, by omega, k6⟩
  generalize costT T (wl A : Int) (wl C : Int) = K at *
  generalize lev (max (wl A) (wl C)) = L at *
  generalize wl A = la at *
  generalize wl C = lb at *
  clear hu hv rX rY dX dY vX vY CX CY xl yl hd hE hT h0 h1 h2 h3
  go_enter Tryz.func12, Tryz.ntmps12
  go_wp2_with fail
  refine (unhide HCX).mono ?_
  rintro e w1 ⟨rfl, hw⟩
  obtain rfl := hw.symm
  clear hw
  go_wp2_with fail
  refine (unhide HCY).mono ?_
  rintro e w1 ⟨rfl, hw⟩
  obtain rfl := hw.symm
  clear hw
  go_wp2_with fail
  refine (unhide CT).mono ?_
  rintro e w1 ⟨r, m', rfl, h⟩
  have H := hide h
  clear h CT
  go_wp2
  go_ret
  exact ⟨r, m', rfl, unhide H⟩
theorem spec_mmul : SpecMMul := fun w gm gt gk ge g s l m T u v A C hE hT h0 h1 h2 h3 hu hv => mmul_any w gm gt gk ge g s l m T u v A C hE hT h0 (by omega) h2 h3 hu hv

end Go.Proofs.YtofgbmfaehnmnaaGreatDoor
