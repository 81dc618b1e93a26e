/- Sqr of an engine of school. -/
import Derived.Test.YtdocljbmmaoenaaSEng
namespace Go.Proofs.Ytdocljbmmaoenaa
open Go.RowKit

theorem blk_in {w : World} {g N m : Nat} {zs : List Nat} (h : Blk w g zs) (hl : zs.length = N) (hN : N ≤ 1073741824) (hd : WDig zs) (hm : wval zs = m) : InW w (.slice (some ⟨g, 0, none⟩) N N) m := by
  have hr := h.rep 0 N N (by omega) (Nat.le_refl _)
  rw [List.drop_zero, List.take_of_length_le (by omega)] at hr
  exact ⟨_, _, _, _, zs, by rw [hl], hr, hd, hm, by omega⟩

set_option maxRecDepth 100000 in
set_option maxHeartbeats 6400000 in
theorem schoolSqr_any {w : World} {ge g : Nat} {s : Int} (E : Eng w ge g s) (u : Value) (m la P : Nat) (hu : InG g w u m la) (ha : la ≤ 1048576) (hs0 : 0 ≤ s) (hs : s ≤ 4611686018427387904) (hP : P = la * (la + 1) / 2) :
    Calls Try.prog 18 #[.pointer (some ⟨ge, 0, none⟩), u] w fun e w' => ∃ r, e = .returned r ∧ NewW w.heap.size w' r (m * m) ∧ Eng w' ge g (s + (P : Int)) ∧ w.grownBy w' (some g) := by
  obtain ⟨ga, ba, oa, ca, xs, rfl, hx, rA, dx, rfl, na⟩ := hu
  have cE := E.ptr
  obtain ⟨l1, hl1⟩ : ∃ l1, l1 = la + 1 := ⟨_, rfl⟩
  have hpm : la * l1 ≤ 1048576 * 1048577 := Nat.mul_le_mul ha (by omega)
  rw [← hl1] at hP
  obtain ⟨Q, hQ⟩ : ∃ Q, Q = la * l1 := ⟨_, rfl⟩
  rw [← hQ] at hP hpm
  have e1 : (la : Int) + 1 = (l1 : Int) := by omega
  have hQi : (la : Int) * (l1 : Int) = (Q : Int) := by rw [hQ]; exact (Int.natCast_mul la l1).symm
  have hw1 : IntKind.i64.wrap (l1 : Int) = (l1 : Int) := by rw [IntKind.wrap_i64]; omega
  have hwQ : IntKind.i64.wrap (Q : Int) = (Q : Int) := by rw [IntKind.wrap_i64]; omega
  have hwP : IntKind.i64.wrap (P : Int) = (P : Int) := by rw [IntKind.wrap_i64]; omega
  have e2 : (Q : Int).tdiv 2 = (P : Int) := by rw [Int.tdiv_eq_ediv_of_nonneg (by omega)]; omega
  have e3 : (Q : Int) / 2 = (P : Int) := by omega
  have CS := hide (spend_any (P : Int) (s + (P : Int)) E.met (by omega) (by omega) (by omega))
  have HE := hide E
  have NA : Hid (0 < xs.length → ba ≠ g) := by rw [hx]; exact na
  clear hP E hs na hl1 hQ
  go_enter Try.func18, Try.ntmps18
  go_wp2_with fail
  refine (unhide CS).mono ?_
  rintro e w1 ⟨rfl, M1, T1⟩
  have G1 := touch_spend T1
  have rA := rA.but G1 (unhide NA)
  have E1 := hide ((unhide HE).step M1 T1)
  have S1 := hide G1.size
  have G1 := hide G1
  clear CS M1 T1 cE
  go_wp2_with fail
  refine (cross_any _ ga ba oa ca la xs hx (by omega) rA dx).mono ?_
  rintro e w2 ⟨zs, rfl, hC, k2, b2⟩
  have rA := rA.next b2
  have i2 := blk_in k2 hC.1 (by omega) hC.2.1 hC.2.2.1
  have B2 := hide b2
  have HV := hide (square_is xs la (by omega))
  obtain ⟨N, hN⟩ : ∃ N, N = 2 * la := ⟨_, rfl⟩
  rw [← hN] at i2 ⊢
  have HN := hide hN
  clear hC k2 b2 hN
  go_wp2_with fail
  refine (squares_any _ ga ba oa ca la xs hx (by omega) rA dx).mono ?_
  rintro e w3 ⟨qs, rfl, hQ, k3, b3⟩
  have i2 := i2.next b3
  have i3 := blk_in k3 hQ.1 (by omega) hQ.2.1 hQ.2.2.1
  have hNla : 2 * la = N := (unhide HN).symm
  rw [hNla] at i3 ⊢
  have B3 := hide (bstep (unhide B2) b3)
  clear hQ k3 b3 rA B2 hNla
  have CW := hide (sum_three w3 _ _ _ _ _ _ i2 i2 i3)
  rw [unhide HV] at CW
  go_wp2_with fail
  refine (unhide CW).mono ?_
  rintro e w4 ⟨r, rfl, hr, b4⟩
  have b6 := bstep (unhide B3) b4
  have hsz := Nat.le_trans (unhide S1) (unhide B3).size
  go_wp2
  go_ret
  exact ⟨r, rfl, hr.mono hsz, (unhide E1).next b6, grown_below (unhide G1) b6⟩

end Go.Proofs.Ytdocljbmmaoenaa
