/- ToomSquares: what the law's walk comes to, once the code's ToomSqr is what the document asks. -/
import Derived.Test.YteinonbijiokmaaM13
import Derived.Test.YteinonbijiokmaaM5
namespace Go.Proofs.Yteinonbijiokmaa
open Go.RowKit

/-- What the closure of ToomSquares counts. -/
structure USt (gt gk ge g : Nat) (T : Tab) (R C Wt Wb h : Nat) (q1 : Int) (h1 : Nat) (i : Nat) (W : World) : Prop where
  eng : TEng W gt gk ge g 0 1 1 T
  right : One W R (.bool true) 4
  calls : One W C (.int .i64 (i : Int)) 3
  want : One W Wt (.slice (some ⟨Wb, 0, none⟩) 5 5) 78
  row : W.heap[Wb]? = some (.cells #[.int .i64 (h : Int), .int .i64 (h1 : Int), .int .i64 (h1 : Int), .int .i64 (h1 : Int), .int .i64 q1] 3 (0, 0))
theorem tsqr_inn {B gt gk ge g : Nat} {T : Tab} {R C Wt Wb N h : Nat} {q1 : Int} {h1 : Nat} (hB : gt < B ∧ gk < B ∧ ge < B ∧ g < B ∧ R < B ∧ C < B ∧ Wt < B ∧ Wb < B) (n9 : gt ≠ R ∧ gt ≠ C) (n0 : gk ≠ R ∧ gk ≠ C) (n1 : ge ≠ R ∧ ge ≠ C) (n2 : g ≠ R ∧ g ≠ C) (n3 : Wt ≠ R ∧ Wt ≠ C) (n4 : Wb ≠ R ∧ Wb ≠ C) (hN : N ≤ 45) (hh : h = (N + 2) / 3) (hhM : 2 * h < N) (hq1 : q1 = (N : Int) - 2 * (h : Int)) (hh1 : h1 = h + 1) :
    InnS B gt gk ge g 0 T N h 40 #[] #[.pointer (some ⟨R, 0, none⟩), .pointer (some ⟨C, 0, none⟩), .pointer (some ⟨Wt, 0, none⟩)] (fun j => j = R ∨ j = C) (USt gt gk ge g T R C Wt Wb h q1 h1) := by
  refine ⟨fun _ _ => by kernel_rfl, fun i W W' s b => ⟨s.eng.out b (by omega) (by omega) (by omega) (by omega), s.right.out b (by omega), s.calls.out b (by omega), s.want.out b (by omega), (b.block Wb (Array.getElem?_eq_some_iff.1 s.row).1 (by omega)).trans s.row⟩, fun i W s => ⟨0, 1, s.eng⟩, fun i W u a hi s hu => ?_⟩
  have hq1' : q1 = ((N - 2 * h : Nat) : Int) := by omega
  have hw : W.cell? ⟨Wb, i, none⟩ = some (.int .i64 ((tlen N N h i).1 : Int)) ∧ (tlen N N h i).1 ≤ 60 := by
    rw [cell_of_row W Wb i _ _ (0, 0) s.row]
    match i, hi with
    | 0, _ => exact ⟨rfl, by show h ≤ 60; omega⟩
    | 1, _ => exact ⟨by rw [hh1]; rfl, by show h + 1 ≤ 60; omega⟩
    | 2, _ => exact ⟨by rw [hh1]; rfl, by show h + 1 ≤ 60; omega⟩
    | 3, _ => exact ⟨by rw [hh1]; rfl, by show h + 1 ≤ 60; omega⟩
    | 4, _ => exact ⟨by rw [hq1']; rfl, by show N - 2 * h ≤ 60; omega⟩
  refine (sqrsClosT_any W u a _ i R C Wt Wb _ hu hw.2 hi s.right s.calls s.want.cell hw.1).mono ?_
  rintro e W' ⟨r, rfl, nr, hR, hC, ho⟩
  have z : ∀ k, k ≠ R ∧ k ≠ C → ¬ (k = R ∨ k = C) := fun k hk => by omega
  exact ⟨r, rfl, nr, ⟨s.eng.out ho (z _ n9) (z _ n0) (z _ n1) (z _ n2), hR, hC, s.want.out ho (z _ n3), (ho.block Wb (Array.getElem?_eq_some_iff.1 s.row).1 (z _ n4)).trans s.row⟩, ho.mono fun k hk => Or.inl hk⟩

set_option maxRecDepth 100000 in
set_option maxHeartbeats 12800000 in
theorem toomSquares_any (SN : SpecTNew) (S3 : SpecThird) (S4 : SpecThirdNo) (SQ : SpecToomS) (SO : SpecToomSqrNo) (T : Tab) (ga : Option Addr) (ba oa ca la : Nat) (xs : List Nat) (w : World) (hx : xs.length = la) (hA : Rep w ga ba oa ca xs) (wx : ∀ j, xs.getD j 0 < 18446744073709551616) :
    Calls Try.prog 6 #[T.val, .slice ga la ca] w fun e w' => e = .returned (.bool true) ∧ Below w.heap.size w w' := by
  obtain ⟨n, hca⟩ : ∃ k, k = min la 45 := ⟨_, rfl⟩
  have Ca : Hid (∀ w, Calls Try.prog 9 #[.slice ga la ca, .int .i64 45] w fun e w' => e = .returned (.slice ga n ca) ∧ w' = w) := fun w => cut_any w ga la ca 45 n (by have := hA.room; omega) (by omega) hca
  obtain ⟨hla, rA⟩ := cut_rep hA 45 n (by rw [hx]; exact hca)
  have dx : WDig (xs.take n) := take_words wx n
  have hma : n ≤ 45 := by omega
  clear hca hA wx hx
  generalize xs.take n = us at *
  obtain ⟨A, hva⟩ : ∃ k, k = wval us := ⟨_, rfl⟩
  have ba' : A < 18446744073709551616 ^ 45 := by rw [hva]; exact pow_up (wval_lt_pow dx) (by omega)
  have Ba : Hid (A < 4294967296 ^ 90) := by have := ba'; rw [wpow] at this; exact this
  have CFa := hide (fun W (r : Rep W ga ba oa ca us) => from_toom W ga ba oa ca n A us hla (by omega) r dx hva)
  have HXL := hide hla
  have HEA := hide hva
  have La : Hid (0 < us.length → ba < w.heap.size) := fun h => rA.lt h
  clear hva hla
  have HPR : Hid (A * A < 18446744073709551616 ^ (45 + 45)) := by have := Nat.mul_lt_mul'' ba' ba'; rwa [← Nat.pow_add] at this
  clear ba'
  obtain ⟨F, hF⟩ : ∃ F, F = 6148914691236517205 := ⟨_, rfl⟩
  have HF := hide hF
  clear hF
  have bl := Below.refl w.heap.size w
  have CN := hide (fun w ob => tNew_box SN T w ob)
  unfold Tab.val at CN ⊢
  have hmf : ∀ (fn : Fn) (first cap : Array Value) (w : World), (Instr.makeFunc fn first cap).run Try.prog w = .ok (.func fn first cap) w := fun _ _ _ _ => rfl
  go_enter Try.func6, Try.ntmps6
  go_wp2_with fail
  refine (unhide Ca _).mono ?_
  rintro e wca ⟨rfl, rfl⟩
  clear Ca
  go_wp2_with fail
  refine (unhide CN _ _).mono ?_
  rintro e w1 ⟨gt, gk, ge, g, rfl, K, ht, hk, he, hg, b⟩
  have lt := K.lt
  have lk := K.kara.lt
  have le : ge < w1.heap.size := World.block_lt_of_cell? _ _ K.kara.eng.ptr
  have lg := K.kara.eng.met.lt
  have rA := rA.next b
  have bl := bstep bl b
  clear b CN
  obtain ⟨N1, hN1⟩ : ∃ N1, N1 = n + 2 := ⟨_, rfl⟩
  obtain ⟨h, hh⟩ : ∃ h, h = N1 / 3 := ⟨_, rfl⟩
  obtain ⟨h1, hh1⟩ : ∃ h1, h1 = h + 1 := ⟨_, rfl⟩
  obtain ⟨h2, hh2⟩ : ∃ h2, h2 = 2 * h := ⟨_, rfl⟩
  obtain ⟨q1, hq1⟩ : ∃ q1 : Int, q1 = (n : Int) - (h2 : Int) := ⟨_, rfl⟩
  have e1 : (n : Int) + 2 = (N1 : Int) := by omega
  have e1w : IntKind.i64.wrap (N1 : Int) = (N1 : Int) := by rw [IntKind.wrap_i64]; omega
  have e2 : (N1 : Int).tdiv 3 = (h : Int) := by rw [hh]; rfl
  have e2' : (N1 : Int) / 3 = (h : Int) := by rw [hh]; rfl
  have e2w : IntKind.i64.wrap (h : Int) = (h : Int) := by rw [IntKind.wrap_i64]; omega
  have e6 : 2 * (h : Int) = (h2 : Int) := by omega
  have e6w : IntKind.i64.wrap (h2 : Int) = (h2 : Int) := by rw [IntKind.wrap_i64]; omega
  have e3 : (n : Int) - (h2 : Int) = q1 := hq1.symm
  have e3w : IntKind.i64.wrap q1 = q1 := by rw [IntKind.wrap_i64]; omega
  have e5 : (h : Int) + 1 = (h1 : Int) := by omega
  have e5w : IntKind.i64.wrap (h1 : Int) = (h1 : Int) := by rw [IntKind.wrap_i64]; omega
  have HNM : Hid (h = (n + 2) / 3 ∧ h1 = h + 1 ∧ h2 = 2 * h) := ⟨by rw [hh, hN1], hh1, hh2⟩
  have HQ1 : Hid (q1 = (n : Int) - 2 * (h : Int)) := by show _ = _; omega
  have bW : Below w1.heap.size w1 (w1.alloc (.cells #[.int .i64 (h : Int), .int .i64 (h1 : Int), .int .i64 (h1 : Int), .int .i64 (h1 : Int), .int .i64 q1] 3)) := (Below.refl _ _).alloc (Nat.le_refl _) _
  have kW := heap_alloc_new w1 (.cells #[.int .i64 (h : Int), .int .i64 (h1 : Int), .int .i64 (h1 : Int), .int .i64 (h1 : Int), .int .i64 q1] 3)
  obtain ⟨W2, hW2⟩ : ∃ W2, w1.alloc (.cells #[.int .i64 (h : Int), .int .i64 (h1 : Int), .int .i64 (h1 : Int), .int .i64 (h1 : Int), .int .i64 q1] 3) = W2 := ⟨_, rfl⟩
  rw [hW2] at bW kW
  obtain ⟨Wb, hWb⟩ : ∃ Wb, w1.heap.size = Wb := ⟨_, rfl⟩
  rw [hWb] at kW lt lk le lg
  have hWl : Wb < W2.heap.size := (Array.getElem?_eq_some_iff.1 kW).1
  have bX : Below W2.heap.size W2 (W2.alloc (.cells #[.slice (some ⟨Wb, 0, none⟩) 5 5] 78)) := (Below.refl _ _).alloc (Nat.le_refl _) _
  have oW : One (W2.alloc (.cells #[.slice (some ⟨Wb, 0, none⟩) 5 5] 78)) W2.heap.size (.slice (some ⟨Wb, 0, none⟩) 5 5) 78 := heap_alloc_new W2 _
  obtain ⟨W3, hW3⟩ : ∃ W3, W2.alloc (.cells #[.slice (some ⟨Wb, 0, none⟩) 5 5] 78) = W3 := ⟨_, rfl⟩
  rw [hW3] at bX oW
  obtain ⟨Wt, hWt⟩ : ∃ Wt, W2.heap.size = Wt := ⟨_, rfl⟩
  rw [hWt] at oW hWl
  have LWX : Hid (Wt < W3.heap.size) := oW.lt
  have kW : W3.heap[Wb]? = _ := (bX.block Wb (by omega)).trans kW
  have rA := (rA.next bW).next bX
  have K := (K.next bW).next bX
  have bl := bstep (bstep bl bW) bX
  clear hN1 hh hh1 hh2 hq1 bW bX
  go_wp2_with fail
  refine (lend_any _ ga ba oa ca n us (unhide HXL) (by omega) rA F (unhide HF)).mono ?_
  rintro e w4 ⟨rfl, o4, b⟩
  obtain ⟨r4, t4⟩ := lent_rep o4 (unhide HXL)
  have rA := rA.next b
  have K := K.next b
  have oW := oW.next b
  have kW := (b.block Wb (Array.getElem?_eq_some_iff.1 kW).1).trans kW
  have bl := bstep bl b
  have LX0 : Hid (W3.heap.size < w4.heap.size ∧ Wt < w4.heap.size) := ⟨t4.lt (by simp), oW.lt⟩
  clear b o4 hW2 hW3 hWb hWt e1 e1w e2 e2' e2w e3 e3w e5 e5w
  have hCw : w.heap.size ≤ w4.heap.size := bl.size
  have bC : Below w4.heap.size w4 (w4.alloc (.cells #[.int .i64 0] 3)) := (Below.refl _ _).alloc (Nat.le_refl _) _
  have oC : One (w4.alloc (.cells #[.int .i64 0] 3)) w4.heap.size (.int .i64 ((0 : Nat) : Int)) 3 := heap_alloc_new w4 _
  have s6 : (w4.alloc (.cells #[.int .i64 0] 3)).heap.size = w4.heap.size + 1 := by simp
  have bR : Below (w4.alloc (.cells #[.int .i64 0] 3)).heap.size (w4.alloc (.cells #[.int .i64 0] 3)) ((w4.alloc (.cells #[.int .i64 0] 3)).alloc (.cells #[.bool true] 4)) := (Below.refl _ _).alloc (Nat.le_refl _) _
  have oR : One ((w4.alloc (.cells #[.int .i64 0] 3)).alloc (.cells #[.bool true] 4)) (w4.alloc (.cells #[.int .i64 0] 3)).heap.size (.bool true) 4 := heap_alloc_new _ _
  rw [s6] at oR
  have oC := oC.next bR
  have b := bstep bC bR
  have rA := rA.next b
  have K := K.next b
  have oW := oW.next b
  have r4 := r4.next b
  have t4 := t4.next b
  have kW := (b.block Wb (Array.getElem?_eq_some_iff.1 kW).1).trans kW
  have bl := bstep bl b
  have z5 : Wt < w4.heap.size ∧ W3.heap.size < w4.heap.size ∧ Wt < W3.heap.size := ⟨(unhide LX0).2, (unhide LX0).1, unhide LWX⟩
  clear bC bR b s6
  obtain ⟨W7, hW7⟩ : ∃ W7, (w4.alloc (.cells #[.int .i64 0] 3)).alloc (.cells #[.bool true] 4) = W7 := ⟨_, rfl⟩
  rw [hW7] at oR oC rA K oW r4 t4 kW bl
  obtain ⟨C, hC⟩ : ∃ C, w4.heap.size = C := ⟨_, rfl⟩
  obtain ⟨X, hX⟩ : ∃ X, W3.heap.size = X := ⟨_, rfl⟩
  rw [hC] at oC oR z5 hCw
  rw [hX] at r4 t4 z5
  have HR := hide oR.lt
  obtain ⟨S7, hS7⟩ : ∃ S7, W7.heap.size = S7 := ⟨_, rfl⟩
  rw [hS7] at HR
  have hsw : w.heap.size ≤ S7 := by rw [← hS7]; exact bl.size
  obtain ⟨nh, nh1, nh2⟩ := unhide HNM
  have CW := hide (toomWakes_any SN S3 S4)
  by_cases hno : n ≤ h2
  · have hle : (n : Int) ≤ (h2 : Int) := by omega
    have CK := hide (SO W7 gt gk ge g 0 0 0 T (some ⟨X, 0, none⟩) (n + 4) n h (.func (.func 40) #[] #[.pointer (some ⟨C + 1, 0, none⟩), .pointer (some ⟨C, 0, none⟩), .pointer (some ⟨Wt, 0, none⟩)]) K (by decide) (by decide) (by omega) nh (by omega))
    have HC : Hid (∀ W, Out (· = g) W7 W → W.cell? ⟨C, 0, none⟩ = some (.int .i64 0)) := fun W ho => (oC.out ho (fun (e : C = g) => by omega)).cell
    have BL := hide bl
    have HG := hide hg
    clear oR oC rA K oW r4 t4 kW bl SN S3 S4 SO SQ nh nh1 nh2
    go_wp2_with fail
    refine (unhide CK).mono ?_
    rintro e w8 ⟨⟨gv, cv, rfl⟩, ho⟩
    have cC := unhide HC _ ho
    have b8 := (unhide BL).trans (ho.below (B := w.heap.size) (unhide BL).size (fun k (hk : k = g) => by rw [hk]; exact unhide HG))
    clear CK ho
    go_wp2_with fail
    refine (unhide CW _).mono ?_
    rintro e w9 ⟨rfl, b9⟩
    have bl := bstep b8 b9
    go_wp2
    go_ret
    exact ⟨rfl, bl⟩
  · have hle : ¬ (n : Int) ≤ (h2 : Int) := by omega
    have CK := hide (SQ W7 gt gk ge g 0 0 0 T (some ⟨X, 0, none⟩) X 0 (n + 4) n h us 40 #[] #[.pointer (some ⟨C + 1, 0, none⟩), .pointer (some ⟨C, 0, none⟩), .pointer (some ⟨Wt, 0, none⟩)] (fun j => j = C + 1 ∨ j = C) (USt gt gk ge g T (C + 1) C Wt Wb h q1 h1) K (by decide) (by decide) (unhide HXL) r4 dx (fun _ (e : X = C + 1 ∨ X = C) => by omega) (by omega) nh (by omega) (by show ¬ (gt = C + 1 ∨ gt = C); omega) (by show ¬ (gk = C + 1 ∨ gk = C); omega) (by show ¬ (ge = C + 1 ∨ ge = C); omega) (by show ¬ (g = C + 1 ∨ g = C); omega) (fun j (hj : j = C + 1 ∨ j = C) => by have := unhide HR; rw [hS7]; omega)
      (tsqr_inn ⟨K.lt, K.kara.lt, World.block_lt_of_cell? _ _ K.kara.eng.ptr, K.kara.eng.met.lt, oR.lt, oC.lt, oW.lt, (Array.getElem?_eq_some_iff.1 kW).1⟩ (by omega) (by omega) (by omega) (by omega) (by omega) (by omega) (by omega) nh (by omega) (unhide HQ1) nh1)
      (fun W ho hK => ⟨hK, oR.out ho (fun (e : C + 1 = g) => by omega), oC.out ho (fun (e : C = g) => by omega), oW.out ho (fun (e : Wt = g) => by omega), (ho.block Wb (Array.getElem?_eq_some_iff.1 kW).1 (fun (e : Wb = g) => by omega)).trans kW⟩))
    rw [← unhide HEA, hS7] at CK
    clear r4 oW kW K nh nh1 nh2 SN S3 S4 SO SQ
    go_wp2_with fail
    refine (unhide CK).mono ?_
    rintro e w8 ⟨v, W, rfl, nv, sW, hO, hKK, hD⟩
    have K := hKK 0 1 sW.eng
    have cC : w8.cell? ⟨C, 0, none⟩ = some (.int .i64 5) := (sW.calls.out hO (fun (e : C = g) => by omega)).cell
    have cR := (sW.right.out hO (fun (e : C + 1 = g) => by omega)).cell
    have rA := hD.rep rA (fun h0 => by have := unhide La h0; show ¬ ((ba = C + 1 ∨ ba = C) ∨ ba = g); omega)
    have t4 := hD.rep t4 (fun _ => by show ¬ ((X = C + 1 ∨ X = C) ∨ X = g); omega)
    have bl := bl.trans (hD.below (B := w.heap.size) bl.size (fun k hk => by omega))
    clear CK sW hO hKK hD oR oC
    go_wp2_with fail
    refine (unhide CFa _ rA).mono ?_
    rintro e w9 ⟨v1, rfl, n1, b⟩
    have rA := rA.next b
    have t4 := t4.next b
    have K := K.next b
    have nv := nv.next b
    have bl := bstep bl b
    clear b
    go_wp2_with fail
    refine (unhide CFa _ rA).mono ?_
    rintro e w10 ⟨v2, rfl, n2, b⟩
    have n1 := n1.next b
    have rA := rA.next b
    have t4 := t4.next b
    have K := K.next b
    have nv := nv.next b
    have bl := bstep bl b
    clear b
    go_wp2_with fail
    refine (mul_any _ v1 v2 A A 90 (by omega) (unhide Ba) (unhide Ba) n1 n2).mono ?_
    rintro e w11 ⟨v3, rfl, n3, b⟩
    clear n1 n2
    have rA := rA.next b
    have t4 := t4.next b
    have K := K.next b
    have nv := nv.next b
    have bl := bstep bl b
    clear b
    go_wp2_with fail
    refine (same_new _ _ _ S7 _ 90 (by omega) (unhide HPR) n3 nv).mono ?_
    rintro e w12 ⟨rfl, b⟩
    clear n3
    have rA := rA.next b
    have t4 := t4.next b
    have K := K.next b
    have bl := bstep bl b
    clear b nv
    clear K
    go_wp2_with fail
    refine (intact_any _ ga X ba oa ca n us (unhide HXL) (by omega) rA F (unhide HF) t4).mono ?_
    rintro e w15 ⟨rfl, b⟩
    have bl := bstep bl b
    clear b
    go_wp2_with fail
    refine (unhide CW _).mono ?_
    rintro e w17 ⟨rfl, b⟩
    have bl := bstep bl b
    go_wp2
    go_ret
    exact ⟨rfl, bl⟩

end Go.Proofs.Yteinonbijiokmaa
