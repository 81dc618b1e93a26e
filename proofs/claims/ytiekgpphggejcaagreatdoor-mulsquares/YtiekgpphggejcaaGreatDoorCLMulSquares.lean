/- MulSquares: what the law's walk comes to, once the code is what the document asks. Written by gen_mul.py. -/
import Derived.Test.YtiekgpphggejcaaGreatDoorB45
import Derived.Test.YtiekgpphggejcaaGreatDoorCRSq
import Derived.Test.YtiekgpphggejcaaGreatDoorB10
import Derived.Test.YtiekgpphggejcaaGreatDoorB32
namespace Go.Proofs.YtiekgpphggejcaaGreatDoor
open Go.RowKit

set_option maxRecDepth 100000 in
set_option maxHeartbeats 12800000 in
theorem mulSquares_any (SN : SpecMNew) (SQ : SpecMSqr) (SP : SpecMProd) (T : Tab) (ga : Option Addr) (ba oa ca la : Nat) (xs : List Nat) (w : World) (hxs : xs.length = la) (HrA : Rep w ga ba oa ca xs) (kxs : ∀ j, xs.getD j 0 < 18446744073709551616) (hT : TB w) :
    Calls Tryz.prog 4 #[T.val, .slice ga la ca] w fun e w' => e = .returned (.bool true) ∧ Below w.heap.size w w' := by
  obtain ⟨n, hca⟩ : ∃ k, k = min la 100 := ⟨_, rfl⟩
  have Ca : Hid (∀ w, Calls Tryz.prog 9 #[.slice ga la ca, .int .i64 100] w fun e w' => e = .returned (.slice ga n ca) ∧ w' = w) := fun w => cut_any w ga la ca 100 n (by have := HrA.room; omega) (by omega) hca
  obtain ⟨hla, rA⟩ := cut_rep HrA 100 n (by rw [hxs]; exact hca)
  have dx : WDig (xs.take n) := take_words kxs n
  have hma : n ≤ 100 := by omega
  clear hca HrA kxs hxs
  generalize xs.take n = us at *
  obtain ⟨A, hva⟩ : ∃ k, k = wval us := ⟨_, rfl⟩
  have LA : Hid (A < 18446744073709551616 ^ 100) := by show _ < _; rw [hva]; exact pow_up (wval_lt_pow dx) (by omega)
  have BA : Hid (A < 4294967296 ^ 200) := by have := unhide LA; rw [wpow] at this; exact this
  have CFa := hide (fun W (r : Rep W ga ba oa ca us) => from_mul W ga ba oa ca n A us hla (by omega) r dx hva)
  have CWa := hide (fun W (r : Rep W ga ba oa ca us) => lwords_any W ga ba oa ca n A us hla (by omega) r dx hva)
  have wlA : wl A ≤ 100 := by rw [hva]; exact Nat.le_trans (wl_le_len dx) (by omega)
  have HLa := hide hla
  have HEa := hide hva
  clear hva hla
  have bl := Below.refl w.heap.size w
  obtain ⟨F, hF⟩ : ∃ F, F = 6148914691236517205 := ⟨_, rfl⟩
  have HF := hide hF
  clear hF
  have HPR : Hid (A * A < 18446744073709551616 ^ (100 + 100)) := by have := Nat.mul_lt_mul'' (unhide LA) (unhide LA); rwa [← Nat.pow_add] at this
  obtain ⟨K, hK⟩ : ∃ K, K = sqT T (wl A : Int) := ⟨_, rfl⟩
  have CC := hide (fun W => rSquare_any T (wl A : Int) W (by omega) (by omega))
  rw [← hK] at CC
  have HK := hide hK
  clear hK
  have CD := hide (fun W => lawDeep_any W (wl A) (by omega))
  obtain ⟨Q, hQ⟩ : ∃ Q, Q = dpt (wl A) := ⟨_, rfl⟩
  rw [← hQ] at CD
  have HQ := hide hQ
  clear hQ
  have b0 : Below w.heap.size w (w.alloc (.cells #[.int .i64 T.b, .int .i64 T.t, .int .i64 T.n, .int .i64 T.d, .int .i64 T.r, .int .i64 T.l, .int .i64 T.x, .int .i64 T.p, .int .i64 T.k, .int .i64 T.s, .int .i64 T.e] 23)) := (Below.refl _ _).alloc (Nat.le_refl _) _
  have tA := tabAt_new w T 23
  obtain ⟨W1, hW1⟩ : ∃ W, w.alloc (.cells #[.int .i64 T.b, .int .i64 T.t, .int .i64 T.n, .int .i64 T.d, .int .i64 T.r, .int .i64 T.l, .int .i64 T.x, .int .i64 T.p, .int .i64 T.k, .int .i64 T.s, .int .i64 T.e] 23) = W := ⟨_, rfl⟩
  rw [hW1] at b0 tA
  obtain ⟨P0, hP0⟩ : ∃ P, w.heap.size = P := ⟨_, rfl⟩
  rw [hP0] at tA
  have lP : P0 < W1.heap.size := tA.lt
  have HT := hide hT
  clear hT
  have rA := rA.next b0
  have bl := bstep bl b0
  clear b0
  have CN := hide (fun W => SN T W)
  have HM := hide SQ
  have CK := hide (fun W h => mulWakes_any SN SP W h)
  clear SN SQ SP
  unfold Tab.val at CN CC ⊢
  go_enter Tryz.func4, Tryz.ntmps4
  go_wp2_with fail
  refine (unhide Ca _).mono ?_
  rintro e wca ⟨rfl, rfl⟩
  clear Ca
  have tX0 := tA
  obtain ⟨p0, p1, p2, p3, p4, p5, p6, p7, p8, p9, p10⟩ := tX0
  go_wp2_with fail
  refine (unhide CN _).mono ?_
  rintro e w1 ⟨gm, gt, gk, ge, g, rfl, E, hn, b⟩
  clear p0 p1 p2 p3 p4 p5 p6 p7 p8 p9 p10
  have hg : w.heap.size ≤ g := by omega
  have nP : P0 ≠ g := by omega
  clear hn
  have tA := tA.next b
  have rA := rA.next b
  have bl := bstep bl b
  clear b
  go_wp2_with fail
  refine (lend_any _ ga ba oa ca n us (unhide HLa) (by omega) rA F (unhide HF)).mono ?_
  rintro e w2 ⟨rfl, ol, b⟩
  obtain ⟨rX, tX⟩ := lent_rep ol (unhide HLa)
  clear ol
  have tA := tA.next b
  have rA := rA.next b
  have E := E.next b
  have bl := bstep bl b
  clear b
  have ix := inM_rep rX dx (unhide HLa) (unhide HEa) (by omega)
  have CM := hide (unhide HM _ gm gt gk ge g 0 0 0 T _ A E ((unhide HT).next bl) (by decide) (by decide) (by decide) (by decide) ix)
  clear ix rX
  rw [← unhide HK, ← unhide HQ, Int.zero_add, Int.zero_add] at CM
  obtain ⟨g1, hg1⟩ : ∃ g1, g1 = w1.heap.size := ⟨_, rfl⟩
  rw [← hg1] at tX CM ⊢
  obtain ⟨S4, hS4⟩ : ∃ S4, S4 = w2.heap.size := ⟨_, rfl⟩
  have hl1 : g1 < S4 := by rw [hS4]; exact tX.lt (by simp)
  have hSw : w.heap.size ≤ S4 := by rw [hS4]; exact bl.size
  have hAb : Hid (0 < us.length → ba < S4) := fun h => by rw [hS4]; exact rA.lt h
  clear hg1
  go_wp2_with fail
  refine (unhide CM).mono ?_
  rintro e w3 ⟨r, m', rfl, ns, E2, q1, q2, o⟩
  clear CM
  have ns : NewB S4 w3.heap.size w3 r (A * A) := by rw [hS4]; exact ns.born
  obtain ⟨S5, hS5⟩ : ∃ S5, S5 = w3.heap.size := ⟨_, rfl⟩
  rw [← hS5] at ns
  have h45 : S4 ≤ S5 := by rw [hS4, hS5]; exact o.size
  clear hS4 hS5
  have tA := tA.out o (fun (e : P0 = g) => by omega)
  have rA := E.rep o rA
  have tX := E.rep o tX
  have bl := bl.trans (o.below (B := w.heap.size) bl.size (fun k hk => by rw [hk]; exact hg))
  have E := E2
  clear o E2
  have hKK : ((K : Int) != (K : Int)) = false := by simp
  have hq : decide ((Q : Int) < m') = false := decide_eq_false (by omega)
  clear q1 q2
  have HC : Hid (∀ w', Below w3.heap.size w3 w' → w'.cell? ⟨gm, 0, none⟩ = some (.pointer (some ⟨gt, 0, none⟩)) ∧ w'.cell? ⟨gt, 0, none⟩ = some (.pointer (some ⟨gk, 0, none⟩)) ∧ w'.cell? ⟨gk, 0, none⟩ = some (.pointer (some ⟨ge, 0, none⟩)) ∧ w'.cell? ⟨ge, 0, none⟩ = some (.pointer (some ⟨g, 0, none⟩)) ∧ w'.cell? ⟨P0, 0, none⟩ = some (.int .i64 T.b) ∧ w'.cell? ⟨P0, 1, none⟩ = some (.int .i64 T.t) ∧ w'.cell? ⟨P0, 2, none⟩ = some (.int .i64 T.n) ∧ w'.cell? ⟨P0, 3, none⟩ = some (.int .i64 T.d) ∧ w'.cell? ⟨P0, 4, none⟩ = some (.int .i64 T.r) ∧ w'.cell? ⟨P0, 5, none⟩ = some (.int .i64 T.l) ∧ w'.cell? ⟨P0, 6, none⟩ = some (.int .i64 T.x) ∧ w'.cell? ⟨P0, 7, none⟩ = some (.int .i64 T.p) ∧ w'.cell? ⟨P0, 8, none⟩ = some (.int .i64 T.k) ∧ w'.cell? ⟨P0, 9, none⟩ = some (.int .i64 T.s) ∧ w'.cell? ⟨P0, 10, none⟩ = some (.int .i64 T.e)) := fun w' q => by
    obtain ⟨z0, z1, z2, z3⟩ := (E.next q).way
    obtain ⟨p0, p1, p2, p3, p4, p5, p6, p7, p8, p9, p10⟩ := tA.next q
    exact ⟨z0, z1, z2, z3, p0, p1, p2, p3, p4, p5, p6, p7, p8, p9, p10⟩
  have QE : Hid (∀ W, Below w3.heap.size w3 W → Met W g 0 K 0 m') := fun W q => (E.next q).met
  have QA : Hid (∀ W, Below w3.heap.size w3 W → Rep W ga ba oa ca us) := fun W q => rA.next q
  have QN : Hid (∀ W, Below w3.heap.size w3 W → NewB S4 S5 W r (A * A)) := fun W q => ns.next q
  have HRA := hide rA
  have HTX := hide tX
  have HNS := hide ns
  have HBL := hide bl
  obtain ⟨z0, z1, z2, z3, p0, p1, p2, p3, p4, p5, p6, p7, p8, p9, p10⟩ := unhide HC _ (Below.refl _ _)
  have b0 : Below w3.heap.size w3 w3.drew := (Below.refl _ _).drew
  clear E tA rA tX ns bl
  obtain ⟨sa, sn, sc, rfl⟩ := (unhide HNS).toW.shape
  go_wp2
  (try simp only [List.append_eq, List.cons_append, List.nil_append])
  go_region_held3 (fun w' => w'.cell? ⟨gm, 0, none⟩ = some (.pointer (some ⟨gt, 0, none⟩)) ∧ w'.cell? ⟨gt, 0, none⟩ = some (.pointer (some ⟨gk, 0, none⟩)) ∧ w'.cell? ⟨gk, 0, none⟩ = some (.pointer (some ⟨ge, 0, none⟩)) ∧ w'.cell? ⟨ge, 0, none⟩ = some (.pointer (some ⟨g, 0, none⟩)) ∧ w'.cell? ⟨P0, 0, none⟩ = some (.int .i64 T.b) ∧ w'.cell? ⟨P0, 1, none⟩ = some (.int .i64 T.t) ∧ w'.cell? ⟨P0, 2, none⟩ = some (.int .i64 T.n) ∧ w'.cell? ⟨P0, 3, none⟩ = some (.int .i64 T.d) ∧ w'.cell? ⟨P0, 4, none⟩ = some (.int .i64 T.r) ∧ w'.cell? ⟨P0, 5, none⟩ = some (.int .i64 T.l) ∧ w'.cell? ⟨P0, 6, none⟩ = some (.int .i64 T.x) ∧ w'.cell? ⟨P0, 7, none⟩ = some (.int .i64 T.p) ∧ w'.cell? ⟨P0, 8, none⟩ = some (.int .i64 T.k) ∧ w'.cell? ⟨P0, 9, none⟩ = some (.int .i64 T.s) ∧ w'.cell? ⟨P0, 10, none⟩ = some (.int .i64 T.e)) (first | (with_reducible exact unhide HC _ b0) | go_keep) (first
    | (go_at_call 16; refine (unhide CFa _ (unhide QA _ b0)).mono ?_; rintro e wf2 ⟨v2, rfl, n2, b⟩; have b0 := b0.trans (b.mono b0.size); have n1 := n1.next b; clear b)
    | (go_at_call 16; refine (unhide CFa _ (unhide QA _ b0)).mono ?_; rintro e wf1 ⟨v1, rfl, n1, b⟩; have b0 := b0.trans (b.mono b0.size); clear b)
    | (go_at_call 15; refine (mul_any _ v1 v2 A A 200 (Nat.le_of_ble_eq_true rfl) (unhide BA) (unhide BA) n1 n2).mono ?_; rintro e wf3 ⟨v3, rfl, n3, b⟩; have b0 := b0.trans (b.mono b0.size); clear b n1 n2)
    | (go_at_call 14; refine (same_new _ _ _ S4 _ 200 (Nat.le_of_ble_eq_true rfl) (unhide HPR) n3 (unhide QN _ b0).toW).mono ?_; rintro e wf4 ⟨rfl, b⟩; have b0 := b0.trans (b.mono b0.size); clear b n3)
    | (go_at_call 17; refine (muls_any (unhide QE _ b0)).mono ?_; rintro e wf5 ⟨rfl, rfl⟩)
    | (go_at_call 13; refine (unhide CWa _ (unhide QA _ b0)).mono ?_; rintro e wf6 ⟨rfl, rfl⟩)
    | (go_at_call 26; refine (unhide CC _).mono ?_; rintro e wf6 ⟨rfl, b⟩; have b0 := b0.trans (b.mono b0.size); clear b)
    | (go_at_call 19; refine (deep_any (unhide QE _ b0)).mono ?_; rintro e wf7 ⟨rfl, rfl⟩)
    | (go_at_call 20; refine (unhide CD _).mono ?_; rintro e wf8 ⟨rfl, rfl⟩)
    | fail)
  all_goals
    focus
      have rA := (unhide HRA).next b0
      have tX := (unhide HTX).next b0
      have ns := (unhide HNS).next b0
      have bl := bstep (unhide HBL) b0
      clear z0 z1 z2 z3 p0 p1 p2 p3 p4 p5 p6 p7 p8 p9 p10 b0 HRA HTX HNS HBL HC QE QA QN CC CD CFa CWa
      go_wp2_with fail
      refine (spoil_any _ _ _ _ _ ns).mono ?_
      rintro e w4 ⟨rfl, sp⟩
      have rA := rA.spoilt sp (fun h => Or.inl (unhide hAb h))
      have tX := tX.spoilt sp (fun h => Or.inl hl1)
      have bl := below_spoilt bl sp hSw bl.size
      clear ns sp
      go_wp2_with fail
      refine (intact_any _ ga g1 ba oa ca n us (unhide HLa) (by omega) rA F (unhide HF) tX).mono ?_
      rintro e w5 ⟨rfl, b⟩
      have bl := bstep bl b
      clear b
      go_wp2_with fail
      refine (unhide CK _ ((unhide HT).next bl)).mono ?_
      rintro e w6 ⟨rfl, b⟩
      have bl := bstep bl b
      clear b
      go_wp2
      go_ret
      exact ⟨rfl, bl⟩

end Go.Proofs.YtiekgpphggejcaaGreatDoor
