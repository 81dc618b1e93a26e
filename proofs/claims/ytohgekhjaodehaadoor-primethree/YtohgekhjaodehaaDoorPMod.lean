/- Package prime: Mod, Root; the examples of the document. -/
import Derived.Test.YtohgekhjaodehaaDoorPIs
import Derived.Test.YtohgekhjaodehaaDoorQMont
namespace Go.Proofs.YtohgekhjaodehaaDoor
open Go.RowKit

/-- p may be a prime's modulus. -/
def Odd62 (p : Nat) : Prop := p % 2 = 1 ∧ 3 ≤ p ∧ p < 4611686018427387904

set_option maxHeartbeats 800000 in
theorem mod_any (p : Nat) (w : World) (hM : Odd62 p) (hP : isP p = true) (hT : TB w) :
    Calls Tryd.prog 13 #[.int .u64 (p : Int)] w fun e w' => ∃ g, e = .returned (.tuple #[.pointer (some ⟨g, 0, none⟩), .int .i64 0]) ∧ MW w' g p ∧ w.heap.size ≤ g ∧ Below w.heap.size w w' := by
  obtain ⟨ho, hl, hh⟩ := hM
  have CN := hide (modNew_any p w ho hl hh)
  have CI : Hid (∀ w', Below w.heap.size w w' → Calls Tryd.prog 9 #[.int .u64 (p : Int)] w' fun e w'' => e = .returned (.bool true) ∧ Below w'.heap.size w' w'') := fun w' b => by
    have := is_any p w' (by omega) (hT.next b)
    rw [hP] at this
    exact this
  clear ho hl hh hP hT
  go_enter Tryd.func13, Tryd.ntmps13
  go_wp2_with fail
  refine (unhide CN).mono ?_
  rintro e w1 ⟨g, rfl, h, hg, b⟩
  have hM := hide h
  have hG := hide hg
  clear h CN hg
  go_wp2_with fail
  refine (unhide CI _ b).mono ?_
  rintro e w2 ⟨rfl, b2⟩
  go_wp2
  go_ret2
  exact ⟨g, rfl, (unhide hM).next b2, unhide hG, bstep b b2⟩

set_option maxHeartbeats 800000 in
theorem mod_no (p : Nat) (w : World) (hp : p < 18446744073709551616) (h : ¬ (Odd62 p ∧ isP p = true)) (hT : TB w) :
    Calls Tryd.prog 13 #[.int .u64 (p : Int)] w fun e w' => e = .returned (.tuple #[.pointer none, .int .i64 3]) ∧ Below w.heap.size w w' := by
  by_cases hM : Odd62 p
  · have hP : isP p = false := by
      cases hc : isP p
      · rfl
      · exact absurd ⟨hM, hc⟩ h
    obtain ⟨ho, hl, hh⟩ := hM
    have CN := hide (modNew_any p w ho hl hh)
    have CI : Hid (∀ w', Below w.heap.size w w' → Calls Tryd.prog 9 #[.int .u64 (p : Int)] w' fun e w'' => e = .returned (.bool false) ∧ Below w'.heap.size w' w'') := fun w' b => by
      have := is_any p w' hp (hT.next b)
      rw [hP] at this
      exact this
    clear ho hl hh hP hT h hp
    go_enter Tryd.func13, Tryd.ntmps13
    go_wp2_with fail
    refine (unhide CN).mono ?_
    rintro e w1 ⟨g, rfl, h, hg, b⟩
    clear h CN hg
    go_wp2_with fail
    refine (unhide CI _ b).mono ?_
    rintro e w2 ⟨rfl, b2⟩
    go_wp2
    go_ret2
    exact ⟨rfl, bstep b b2⟩
  · have CN := hide (modNew_no p w hM)
    clear hM h hT hp
    go_enter Tryd.func13, Tryd.ntmps13
    go_wp2_with fail
    refine (unhide CN).mono ?_
    rintro e w1 ⟨rfl, rfl⟩
    go_wp2
    go_ret2
    exact ⟨rfl, Below.refl _ _⟩

/-- X is the least number from 2 on whose power of (p - 1) / 2 is p - 1. -/
structure NonSq (p X : Nat) : Prop where
  two : 2 ≤ X
  lt : X < 18446744073709551616
  hit : pw p X ((p - 1) / 2) = p - 1
  first : ∀ y, 2 ≤ y → y < X → ¬ pw p y ((p - 1) / 2) = p - 1

set_option maxHeartbeats 800000 in
theorem nonSquare_any {w : World} {g p X : Nat} (h : MW w g p) (hX : NonSq p X) :
    Calls Tryd.prog 29 #[.pointer (some ⟨g, 0, none⟩)] w fun e w' => e = .returned (.int .u64 (X : Int)) ∧ w' = w := by
  have hl := h.low
  have hp := h.high
  have CP := hide (modP_any h)
  have CW := hide (fun x => pow_mod h x ((p - 1) / 2) (by omega))
  have hX2 := hX.two
  have hXl := hX.lt
  have H1 := hide hX.hit
  have H2 := hide hX.first
  obtain ⟨N, hN⟩ : ∃ N, N = p - 1 := ⟨_, rfl⟩
  obtain ⟨K, hK⟩ : ∃ K, K = N / 2 := ⟨_, rfl⟩
  rw [← hN, ← hK] at CW H1 H2
  have eN : (p : Int) - 1 = (N : Int) := by omega
  have eNw : IntKind.u64.wrap (N : Int) = (N : Int) := by rw [IntKind.wrap_u64]; omega
  have eK : (N : Int) / 2 = (K : Int) := by omega
  have eK2 : (N : Int).tdiv 2 = (K : Int) := by rw [hK]; rfl
  have eKw : IntKind.u64.wrap (K : Int) = (K : Int) := by rw [IntKind.wrap_u64]; omega
  clear h hX hN hK
  generalize pw p = Q at *
  go_enter Tryd.func29, Tryd.ntmps29
  go_wp2_with fail
  refine (unhide CP).mono ?_
  rintro e w1 ⟨rfl, rfl⟩
  go_wp2
  go_loopw [4] (fun xv wr => ∃ x : Nat, 2 ≤ x ∧ x ≤ X ∧ xv = .int .u64 (x : Int) ∧ Hid (wr = w1)) (fun xv _ => X - (intOf xv).toNat)
  case atStart => exact ⟨2, by omega, by omega, rfl, rfl⟩
  case round =>
    obtain ⟨x, hx2, hxX, rfl, hw⟩ := hrel
    obtain rfl := hw.out.symm
    by_cases hx : x = X
    · subst hx
      have C := unhide CW x
      rw [unhide H1] at C
      have C := hide C
      go_wp2_with fail
      refine (unhide C).mono ?_
      rintro e w2 ⟨rfl, rfl⟩
      go_wp2
      go_ret
      exact ⟨ret_int rfl, rfl⟩
    · have C := unhide CW x
      have hne := unhide H2 x hx2 (by omega)
      generalize Q x K = r at *
      have C := hide C
      have hni : ((r : Int) != (N : Int)) = true := by rw [bne_iff_ne]; omega
      have hmm : Hid (X - (x + 1) < X - x) := by show _ < _; omega
      clear hne
      go_wp2_with fail
      refine (unhide C).mono ?_
      rintro e w2 ⟨rfl, rfl⟩
      go_wp2
      go_roundw
      case rel => exact ⟨x + 1, by omega, by omega, by go_num, trivial⟩
      case measure => simp [intOf]; have := unhide hmm; omega

set_option maxHeartbeats 1600000 in
theorem root_any (p X l : Nat) (w : World) (hM : Odd62 p) (hP : isP p = true) (hX : NonSq p X) (hl : l ≤ 20) (hd : l ≤ tw p) (hT : TB w) :
    Calls Tryd.prog 21 #[.int .u64 (p : Int), .int .i64 (l : Int)] w fun e w' => e = .returned (.tuple #[.int .u64 (pw p X ((p - 1) / 2 ^ l) : Int), .int .i64 0]) ∧ Below w.heap.size w w' := by
  have CM := hide (mod_any p w hM hP hT)
  obtain ⟨_, h3, hh⟩ := hM
  have hT64 := (twos_of (n := p) (by omega) (by omega)).1
  have CT : Hid (∀ w', Below w.heap.size w w' → Calls Tryd.prog 25 #[.int .u64 ((p - 1 : Nat) : Int)] w' fun e w'' => e = .returned (.int .i64 (tw p : Int)) ∧ w'' = w') := fun w' b => tz_any (p - 1) w' (by omega) (by omega) (hT.next b)
  have CN := hide (fun w' g (h : MW w' g p) => nonSquare_any h hX)
  have hE : (p - 1) / 2 ^ l < 18446744073709551616 := Nat.lt_of_le_of_lt (Nat.div_le_self _ _) (by omega)
  have CW := hide (fun w' g (h : MW w' g p) => pow_mod h X ((p - 1) / 2 ^ l) hE)
  have es := shr_eq (p - 1) l
  generalize pw p X ((p - 1) / 2 ^ l) = Z at *
  generalize (p - 1) / 2 ^ l = E at *
  obtain ⟨N, hN⟩ : ∃ N, N = p - 1 := ⟨_, rfl⟩
  rw [← hN] at es CT
  have eN : (p : Int) - 1 = (N : Int) := by omega
  have eNw : IntKind.u64.wrap (N : Int) = (N : Int) := by rw [IntKind.wrap_u64]; omega
  generalize tw p = t at *
  have hlt : ¬ (t : Int) < (l : Int) := by omega
  have hl0 : ¬ (l : Int) < 0 := by omega
  have hl20 : ¬ (20 : Int) < (l : Int) := by omega
  clear hT hX hP hN
  go_enter Tryd.func21, Tryd.ntmps21
  go_wp2_with fail
  refine (unhide CM).mono ?_
  rintro e w1 ⟨g, rfl, h, hg, b⟩
  have hM := hide h
  clear h CM hg
  go_wp2_with fail
  refine (unhide CT _ b).mono ?_
  rintro e w2 ⟨rfl, rfl⟩
  clear CT
  have inst := old_some w2
  have CN : Hid (∀ u : Old w2, Calls Tryd.prog 29 #[.pointer (some ⟨g, 0, none⟩)] u.val fun e w' => e = .returned (.int .u64 (X : Int)) ∧ w' = u.val) := fun u => unhide CN _ g ((unhide hM).next u.old)
  have CW : Hid (∀ u : Old w2, Calls Tryd.prog 28 #[.pointer (some ⟨g, 0, none⟩), .int .u64 (X : Int), .int .u64 (E : Int)] u.val fun e w' => e = .returned (.int .u64 (Z : Int)) ∧ w' = u.val) := fun u => unhide CW _ g ((unhide hM).next u.old)
  go_wp2_with fail
  refine region_old (by kernel_rfl) (by kernel_rfl) ?_
  repeat (go_big_quiet_step (first | (go_at_call 29; exact Calls.old_same (unhide CN _)) | (go_at_call 28; exact Calls.old_same (unhide CW _))))
  refine wpQuiet_nil ?_
  intro w5 hw5
  obtain ⟨u, rfl⟩ := hw5
  go_wp2
  go_ret2
  exact ⟨rfl, bstep b u.old⟩

theorem isP_17 : isP 17 = true := by decide +kernel
theorem isP_2 : isP 2 = true := by decide +kernel
theorem isP_1 : isP 1 = false := by decide +kernel
theorem nonSq_17 : NonSq 17 3 := ⟨by decide, by decide, by decide +kernel, fun y h1 h2 => by
  obtain rfl : y = 2 := by omega
  decide +kernel⟩
theorem isP_eleven : isP 3215031751 = false := by
  refine isP_fail (k := 4) (by decide +kernel) (by decide) ?_
  unfold pass
  have e : od 3215031751 = 1607515875 := by decide +kernel
  have e2 : tw 3215031751 = 1 := by decide +kernel
  rw [e, e2, pw_is (f := 31) (by decide) (by decide) (by decide)]
  decide +kernel

set_option maxHeartbeats 1600000 in
theorem primeWakes_any (w : World) (hT : TB w) : Calls Tryd.prog 10 #[] w fun e w' => e = .returned (.bool true) ∧ Below w.heap.size w w' := by
  have CR : Hid (Calls Tryd.prog 21 #[.int .u64 17, .int .i64 2] w fun e w' => e = .returned (.tuple #[.int .u64 13, .int .i64 0]) ∧ Below w.heap.size w w') := root_any 17 3 2 w ⟨by decide, by decide, by decide⟩ isP_17 nonSq_17 (by decide) (by decide +kernel) hT
  have C1 : Hid (∀ w', Below w.heap.size w w' → Calls Tryd.prog 9 #[.int .u64 2] w' fun e w'' => e = .returned (.bool true) ∧ Below w'.heap.size w' w'') := fun w' b => by
    have := is_any 2 w' (by decide) (hT.next b)
    rw [isP_2] at this
    exact this
  have C2 : Hid (∀ w', Below w.heap.size w w' → Calls Tryd.prog 9 #[.int .u64 3215031751] w' fun e w'' => e = .returned (.bool false) ∧ Below w'.heap.size w' w'') := fun w' b => by
    have := is_any 3215031751 w' (by decide) (hT.next b)
    rw [isP_eleven] at this
    exact this
  have C3 : Hid (∀ w', Below w.heap.size w w' → Calls Tryd.prog 9 #[.int .u64 1] w' fun e w'' => e = .returned (.bool false) ∧ Below w'.heap.size w' w'') := fun w' b => by
    have := is_any 1 w' (by decide) (hT.next b)
    rw [isP_1] at this
    exact this
  clear hT
  go_enter Tryd.func10, Tryd.ntmps10
  go_wp2_with fail
  refine (unhide CR).mono ?_
  rintro e w1 ⟨rfl, b⟩
  clear CR
  go_wp2_with fail
  refine (unhide C1 _ b).mono ?_
  rintro e w2 ⟨rfl, b2⟩
  have b := bstep b b2
  clear b2 C1
  go_wp2_with fail
  refine (unhide C2 _ b).mono ?_
  rintro e w2 ⟨rfl, b2⟩
  have b := bstep b b2
  clear b2 C2
  go_wp2_with fail
  refine (unhide C3 _ b).mono ?_
  rintro e w2 ⟨rfl, b2⟩
  have b := bstep b b2
  clear b2 C3
  go_wp2
  go_ret
  exact ⟨rfl, b⟩

end Go.Proofs.YtohgekhjaodehaaDoor
