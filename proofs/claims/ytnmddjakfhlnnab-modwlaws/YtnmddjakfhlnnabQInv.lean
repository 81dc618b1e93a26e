/- Package modw: the inverse, and the example of the document. -/
import Derived.Test.YtnmddjakfhlnnabQMont
namespace Go.Proofs.Ytnmddjakfhlnnab
open Go.RowKit

/-- What Inv answers. -/
def InvAns (p a : Nat) (v : Value) : Prop := (Nat.gcd a p = 1 ∧ ∃ x : Nat, x < p ∧ ml p a x = 1 ∧ v = .tuple #[.int .u64 (x : Int), .bool true]) ∨ (Nat.gcd a p ≠ 1 ∧ v = .tuple #[.int .u64 0, .bool false])
theorem invAns_mk {p a : Nat} {v : Value} (h : (Nat.gcd a p = 1 ∧ ∃ x : Nat, x < p ∧ ml p a x = 1 ∧ v = .tuple #[.int .u64 (x : Int), .bool true]) ∨ (Nat.gcd a p ≠ 1 ∧ v = .tuple #[.int .u64 0, .bool false])) : InvAns p a v := h

theorem tdiv_nat (a b : Nat) : (a : Int).tdiv (b : Int) = ((a / b : Nat) : Int) := rfl

set_option maxHeartbeats 1600000 in
theorem inv_any {w : World} {g p : Nat} (h : MW w g p) (a : Nat) :
    Calls Try.prog 21 #[.pointer (some ⟨g, 0, none⟩), .int .u64 (a : Int)] w fun e w' => ∃ v, e = .returned v ∧ InvAns p a v ∧ Below w.heap.size w w' := by
  have hl := h.low
  have hp := h.high
  have o0 := Old.cell h.c0
  have CR : Hid (∀ u : Old w, Calls Try.prog 9 #[.pointer (some ⟨g, 0, none⟩), .int .u64 (a : Int)] u.val fun e w' => e = .returned (.int .u64 (rd p a : Int)) ∧ w' = u.val) := fun u => red_any (h.next u.old) a
  have CM := hide (fun w (h : MW w g p) x y => mul_mod h x y)
  have CS := hide (fun w (h : MW w g p) x y => sub_mod h x y)
  have H0 := hide (eu_start a hl)
  have H1 := hide (fun up lo ut t => eu_step (a := a) (up := up) (lo := lo) (ut := ut) (t := t) (show 0 < p by omega))
  have H2 := hide (fun up ut t => eu_end (a := a) (up := up) (ut := ut) (t := t) hl)
  have HM := hide h
  have hr : rd p a < p := Nat.mod_lt _ (by omega)
  clear h
  have HG : Hid (∀ up ut : Nat, up = Nat.gcd a p ∧ (up = 1 → ut < p ∧ ml p a ut = 1) → (up = 1 → InvAns p a (.tuple #[.int .u64 (ut : Int), .bool true])) ∧ (up ≠ 1 → InvAns p a (.tuple #[.int .u64 0, .bool false]))) := by
    intro up ut ⟨e1, e2⟩
    exact ⟨fun h => .inl ⟨by rw [← e1, h], ut, (e2 h).1, (e2 h).2, rfl⟩, fun h => .inr ⟨by rw [← e1]; exact h, rfl⟩⟩
  generalize InvAns p a = IA at *
  generalize Nat.gcd a p = G at *
  generalize rd p a = r at *
  generalize sb p = S at *
  generalize ml p = M at *
  generalize EuAt p a = E at *
  go_enter Try.func21, Try.ntmps21
  go_wp2_with fail
  have inst := old_some w
  refine region_old (by kernel_rfl) (by kernel_rfl) ?_
  repeat (go_big_quiet_step ((go_at_call 9; exact Calls.old_same (unhide CR _))))
  refine wpQuiet_nil ?_
  intro w5 hw5
  obtain ⟨u, rfl⟩ := hw5
  have b1 := u.old
  have HM := hide ((unhide HM).next u.old)
  generalize u.val = w5 at *
  clear u inst o0 CR
  go_wp2
  go_loopw [6, 7, 8, 9] (fun uv lv utv tv wr => ∃ (up lo ut t : Nat), up ≤ p ∧ lo < p ∧ uv = .int .u64 (up : Int) ∧ lv = .int .u64 (lo : Int) ∧ utv = .int .u64 (ut : Int) ∧ tv = .int .u64 (t : Int) ∧ Hid (E up lo ut t) ∧ Hid (MW wr g p) ∧ Below w.heap.size w wr) (fun _ lv _ _ _ => (intOf lv).toNat)
  case atStart => exact ⟨p, r, 0, 1, by omega, hr, rfl, rfl, rfl, rfl, H0, HM, b1⟩
  case round =>
    clear b1 HM
    obtain ⟨up, lo, ut, t, hup, hlo, rfl, rfl, rfl, rfl, hE, hM, hb⟩ := hrel
    by_cases h0 : lo = 0
    · subst h0
      have e := unhide H2 _ _ _ hE.out
      obtain ⟨e1, e2⟩ := unhide HG up ut e
      clear hE e HG H0 H1 H2
      by_cases hu : up = 1
      · subst hu
        have e := hide (e1 rfl)
        clear e1 e2
        go_wp2
        go_ret2
        exact ⟨_, rfl, unhide e, hb⟩
      · have hne : ((up : Int) != 1) = true := by rw [bne_iff_ne]; omega
        have e := hide (e2 hu)
        clear e1 e2 hu
        go_wp2
        go_ret2
        exact ⟨_, rfl, unhide e, hb⟩
    · obtain ⟨q, hq⟩ : ∃ q, q = up / lo := ⟨_, rfl⟩
      obtain ⟨T, hT⟩ : ∃ T, T = q * lo := ⟨_, rfl⟩
      obtain ⟨l2, hl2⟩ : ∃ l2, l2 = up % lo := ⟨_, rfl⟩
      have e := unhide H1 _ _ _ _ hE.out
      rw [← hq, ← hl2] at e
      have HE := hide e
      have hdm := Nat.div_add_mod up lo
      rw [← hq, ← hl2, Nat.mul_comm, ← hT] at hdm
      have hlt : l2 < lo := by rw [hl2]; exact Nat.mod_lt _ (by omega)
      have hqu : q ≤ up := by rw [hq]; exact Nat.div_le_self _ _
      have f1 : (up : Int).tdiv (lo : Int) = (q : Int) := by rw [hq]; exact tdiv_nat up lo
      have f2 : (up : Int) / (lo : Int) = (q : Int) := by rw [hq]; rfl
      have f3 : IntKind.u64.wrap (q : Int) = (q : Int) := by rw [IntKind.wrap_u64]; omega
      have f4 : (q : Int) * (lo : Int) = (T : Int) := by rw [hT]; exact (Int.natCast_mul q lo).symm
      have f5 : IntKind.u64.wrap (T : Int) = (T : Int) := by rw [IntKind.wrap_u64]; omega
      have f6 : (up : Int) - (T : Int) = (l2 : Int) := by omega
      have f7 : IntKind.u64.wrap (l2 : Int) = (l2 : Int) := by rw [IntKind.wrap_u64]; omega
      have hpos : (0 : Int) < (lo : Int) := by omega
      have hnz : ¬ (lo : Int) = 0 := by omega
      clear hq hT hl2 hE e hdm h0
      go_wp2_with fail
      refine (unhide CM _ (unhide hM) _ _).mono ?_
      rintro e w6 ⟨rfl, b2⟩
      have hM := hide ((unhide hM).next b2)
      have hb := bstep hb b2
      clear b2
      go_wp2_with fail
      refine (unhide CS _ (unhide hM) _ _).mono ?_
      rintro e w7 ⟨rfl, rfl⟩
      go_wp2
      go_roundw
      case rel => exact ⟨lo, l2, t, _, by omega, by omega, rfl, by go_num, rfl, rfl, HE, hM, hb⟩
      case measure => simp [intOf]; omega

theorem inv_seven {v : Value} (h : InvAns 7 3 v) : v = .tuple #[.int .u64 5, .bool true] := by
  rcases h with ⟨_, x, hx, h1, rfl⟩ | ⟨h, _⟩
  · have : x = 5 := inv_one (p := 7) (a := 3) hx (by omega) h1 (by decide)
    subst this
    rfl
  · exact absurd (by decide) h

set_option maxHeartbeats 1600000 in
theorem modWakes_any (w : World) : Calls Try.prog 14 #[] w fun e w' => e = .returned (.bool true) ∧ Below w.heap.size w w' := by
  have CN : Hid (∀ w, Calls Try.prog 5 #[.int .u64 7] w fun e w' => ∃ g, e = .returned (.tuple #[.pointer (some ⟨g, 0, none⟩), .int .i64 0]) ∧ MW w' g 7 ∧ w.heap.size ≤ g ∧ Below w.heap.size w w') := fun w => modNew_any 7 w (by decide) (by decide) (by decide)
  have CI : Hid (∀ w g, MW w g 7 → Calls Try.prog 21 #[.pointer (some ⟨g, 0, none⟩), .int .u64 3] w fun e w' => e = .returned (.tuple #[.int .u64 5, .bool true]) ∧ Below w.heap.size w w') := fun w g h => (inv_any h 3).mono fun e w' ⟨v, he, hv, hb⟩ => ⟨by rw [he, inv_seven hv], hb⟩
  have CG : Hid (∀ w g, MW w g 7 → Calls Try.prog 10 #[.pointer (some ⟨g, 0, none⟩), .int .u64 0] w fun e w' => e = .returned (.int .u64 0) ∧ w' = w) := fun w g h => neg_mod h 0
  have CP : Hid (∀ w g, MW w g 7 → Calls Try.prog 22 #[.pointer (some ⟨g, 0, none⟩)] w fun e w' => e = .returned (.int .u64 7) ∧ w' = w) := fun w g h => modP_any h
  go_enter Try.func14, Try.ntmps14
  go_wp2_with fail
  refine (unhide CN _).mono ?_
  rintro e w1 ⟨g, rfl, h, hg, b⟩
  have hM := hide h
  clear h CN hg
  go_wp2_with fail
  refine (unhide CI _ _ (unhide hM)).mono ?_
  rintro e w2 ⟨rfl, b2⟩
  have hM := hide ((unhide hM).next b2)
  have b := bstep b b2
  clear b2 CI
  go_wp2_with fail
  refine (unhide CG _ _ (unhide hM)).mono ?_
  rintro e w3 ⟨rfl, rfl⟩
  go_wp2_with fail
  refine (unhide CP _ _ (unhide hM)).mono ?_
  rintro e w3 ⟨rfl, rfl⟩
  go_wp2
  go_ret
  exact ⟨rfl, b⟩

end Go.Proofs.Ytnmddjakfhlnnab
