/- MulProducts: what the law's walk comes to, once the code is what the document asks. Written by gen_mul.py. -/
import Derived.Test.YtiekgpphggejcaaGreatDoorB45
import Derived.Test.YtiekgpphggejcaaGreatDoorB10
import Derived.Test.YtiekgpphggejcaaGreatDoorB14
namespace Go.Proofs.YtiekgpphggejcaaGreatDoor
open Go.RowKit

set_option maxRecDepth 100000 in
set_option maxHeartbeats 12800000 in
theorem mulProducts_any (SN : SpecMNew) (SP : SpecMProd) (T : Tab) (gp : Option Addr) (bp op cp np : Nat) (vs : List Value) (w : World) (hvl : vs.length = np) (hP : RowsIn w gp bp op vs) (hT : TB w) :
    Calls Tryz.prog 5 #[T.val, .slice gp np cp] w fun e w' => e = .returned (.bool true) ∧ Below w.heap.size w w' := by
  have bl := Below.refl w.heap.size w
  have b0 : Below w.heap.size w (w.alloc (.cells #[.int .i64 T.b, .int .i64 T.t, .int .i64 T.n, .int .i64 T.d, .int .i64 T.r, .int .i64 T.l, .int .i64 T.x, .int .i64 T.p, .int .i64 T.k, .int .i64 T.s, .int .i64 T.e] 23)) := (Below.refl _ _).alloc (Nat.le_refl _) _
  have tA := tabAt_new w T 23
  obtain ⟨W1, hW1⟩ : ∃ W, w.alloc (.cells #[.int .i64 T.b, .int .i64 T.t, .int .i64 T.n, .int .i64 T.d, .int .i64 T.r, .int .i64 T.l, .int .i64 T.x, .int .i64 T.p, .int .i64 T.k, .int .i64 T.s, .int .i64 T.e] 23) = W := ⟨_, rfl⟩
  rw [hW1] at b0 tA
  obtain ⟨P0, hP0⟩ : ∃ P, w.heap.size = P := ⟨_, rfl⟩
  rw [hP0] at tA
  have lP : P0 < W1.heap.size := tA.lt
  have HT := hide hT
  clear hT
  have b00 := b0
  clear b0
  have bl := bstep (Below.refl w.heap.size w) b00
  have CC := hide (cuts_any W1 gp bp op cp np 8 12 vs hvl (by omega) (by omega) (hP.next b00))
  have CN := hide (fun W => SN T W)
  have HM := hide SP
  have CK := hide (fun W h => mulWakes_any SN SP W h)
  clear SN SP hP hvl b00
  unfold Tab.val at CN ⊢
  go_enter Tryz.func5, Tryz.ntmps5
  go_wp2_with fail
  refine (unhide CC).mono ?_
  rintro e w1 ⟨ns, g1, b1, c1, us, rfl, hl1, R1, b⟩
  clear CC
  have tA := tA.next b
  have bl := bstep bl b
  clear b
  obtain ⟨n, hn⟩ : ∃ n, n = us.length := ⟨_, rfl⟩
  rw [← hn] at hl1 ⊢
  have HN := hide hn.symm
  clear hn
  have tX0 := tA
  obtain ⟨p0, p1, p2, p3, p4, p5, p6, p7, p8, p9, p10⟩ := tX0
  go_wp2_with fail
  refine (unhide CN _).mono ?_
  rintro e w2 ⟨gm, gt, gk, ge, g, rfl, E, hn, b⟩
  clear p0 p1 p2 p3 p4 p5 p6 p7 p8 p9 p10
  have hg : w.heap.size ≤ g := by have := bl.size; omega
  clear hn CN tA
  have R1 := R1.next b
  have bl := bstep bl b
  clear b
  go_wp2_with fail
  refine (nats_any 12 _ g1 b1 0 c1 n us ns (unhide HN) (by omega) R1).mono ?_
  rintro e w3 ⟨g2, b2, c2, us2, rfl, hl2, R2, b⟩
  have R1 := R1.next b
  have E := E.next b
  have bl := bstep bl b
  clear b
  have h2n : us2.length = n := by rw [← R2.len, R1.len, unhide HN]
  rw [h2n]
  have H2N := hide h2n
  clear h2n hl2
  go_wp2_with fail
  refine (refProd_any 12 _ g2 b2 0 c2 n us2 ns (unhide H2N) (by omega) (by omega) R2).mono ?_
  rintro e w4 ⟨v3, rfl, n3, b⟩
  have R1 := R1.next b
  have E := E.next b
  have bl := bstep bl b
  clear b
  clear R2 H2N
  go_wp2_with fail
  refine (nats_any 12 _ g1 b1 0 c1 n us ns (unhide HN) (by omega) R1).mono ?_
  rintro e w5 ⟨g4, b4, c4, us4, rfl, hl4, R4, b⟩
  have R1 := R1.next b
  have E := E.next b
  have n3 := n3.next b
  have bl := bstep bl b
  clear b
  have h4n : us4.length = n := by rw [← R4.len, R1.len, unhide HN]
  rw [h4n]
  have hnb : ∀ j, j < n → ns.getD j 0 < 18446744073709551616 ^ 12 := fun j hj => (R4.each j (by omega)).lt
  have HPR : Hid (prN ns < 18446744073709551616 ^ 200) := by
    have hln : ns.length = n := by rw [R4.len, h4n]
    have := prN_lt (ns := ns) (K := 12) (fun j hj => hnb j (by omega)) ns.length (Nat.le_refl _)
    rw [List.take_length] at this
    exact pow_up this (by omega)
  have CM := hide (unhide HM _ gm gt gk ge g 0 0 0 T g4 b4 0 c4 n 12 us4 ns E ((unhide HT).next bl) (by decide) (by decide) (by decide) (by decide) h4n (R4.parts (by decide)) hnb (by omega) (by decide) (by omega) (by omega) (fun j hj => (R4.each j (by omega)).toM (by decide)))
  clear R4 hnb h4n hl4 R1 HM
  go_wp2_with fail
  refine (unhide CM).mono ?_
  rintro e w6 ⟨r, s', m', rfl, nr, E2, q1, q2, o⟩
  clear CM
  have n3 := E.isN o n3
  have bl := bl.trans (o.below (B := w.heap.size) bl.size (fun k hk => by rw [hk]; exact hg))
  have E := E2
  clear o E2
  obtain ⟨sa, sn, sc, rfl⟩ := nr.shape
  clear E q1 q2
  go_wp2_with fail
  refine (same_new _ _ _ _ _ 200 (by omega) (unhide HPR) n3 nr).mono ?_
  rintro e w7 ⟨rfl, b⟩
  clear n3 nr
  have bl := bstep bl b
  clear b
  go_wp2_with fail
  refine (unhide CK _ ((unhide HT).next bl)).mono ?_
  rintro e w8 ⟨rfl, b⟩
  have bl := bstep bl b
  clear b
  go_wp2
  go_ret
  exact ⟨rfl, bl⟩

end Go.Proofs.YtiekgpphggejcaaGreatDoor
