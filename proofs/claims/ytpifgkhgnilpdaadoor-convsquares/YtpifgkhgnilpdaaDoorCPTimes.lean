/- Package prime: the tables; how many twos; a product, a power, Miller's test modulo any word. -/
import Derived.Test.YtpifgkhgnilpdaaDoorCPPlain
import Derived.Test.YtpifgkhgnilpdaaDoorCMul64
import Derived.Test.YtpifgkhgnilpdaaDoorCWord
import Derived.Test.YtpifgkhgnilpdaaDoorCOldQ
import Derived.Laws.Bits64b
namespace Go.Proofs.YtpifgkhgnilpdaaDoor
open Go.RowKit

/-- The two tables lie in their variables. -/
structure TB (w : World) : Prop where
  b : ∀ j, j < 12 → w.cell? ⟨3, j, none⟩ = some (.int .u64 (bs j : Int))
  d : ∀ j, j < 64 → w.cell? ⟨0, j, none⟩ = some (.int .u8 (Lib.deBruijn64tab.getD j 0 : Int))
theorem TB.next {w w' : World} (h : TB w) (hb : Below w.heap.size w w') : TB w' :=
  ⟨fun j hj => (hb.cell (p := ⟨3, j, none⟩) (World.block_lt_of_cell? _ _ (h.b j hj))).trans (h.b j hj),
   fun j hj => (hb.cell (p := ⟨0, j, none⟩) (World.block_lt_of_cell? _ _ (h.d j hj))).trans (h.d j hj)⟩

theorem tz_key (x a : Nat) (hx : x < 18446744073709551616) (hx0 : x ≠ 0) (hlow : x &&& (18446744073709551616 - x) = a) :
    IntKind.u64.wrap (bits BinOp.and IntKind.u64 (x : Int) (IntKind.u64.wrap (-(x : Int))) * 285870213051353865) / 288230376151711744 = ((a * 285870213051353865 % 18446744073709551616 / 288230376151711744 : Nat) : Int) := by
  have e1 : IntKind.u64.wrap (-(x : Int)) = ((18446744073709551616 - x : Nat) : Int) := by rw [IntKind.wrap_u64]; omega
  rw [e1, bits_and_u64_nat x _ hx (by omega), hlow, IntKind.wrap_u64]
  omega

set_option maxHeartbeats 1600000 in
theorem tz_core (x k idx : Nat) (w : World) (hx0 : ((x : Int) == 0) = false)
    (key : IntKind.u64.wrap (bits BinOp.and IntKind.u64 (x : Int) (IntKind.u64.wrap (-(x : Int))) * 285870213051353865) / 288230376151711744 = (idx : Int))
    (hi : idx < 64) (hk : k < 64) (hcell : w.cell? ⟨0, idx, none⟩ = some (.int .u8 (k : Int))) :
    Calls Tryd.prog 72 #[.int .u64 (x : Int)] w fun e w' => e = .returned (.int .i64 (k : Int)) ∧ w' = w := by
  go_enter Tryd.func72, Tryd.ntmps72
  go_wp2_with (simp only [key])
  go_ret
  exact ⟨rfl, rfl⟩

theorem tz_any (x : Nat) (w : World) (hx : x < 18446744073709551616) (hx0 : x ≠ 0) (hT : TB w) :
    Calls Tryd.prog 72 #[.int .u64 (x : Int)] w fun e w' => e = .returned (.int .i64 (Lib.ctz 64 x : Int)) ∧ w' = w := by
  obtain ⟨hlow, hk⟩ := Lib.lowest_bit 64 x hx0 hx
  obtain ⟨hi, htab⟩ := Lib.deBruijn64_at _ hk
  have hcell := hT.d _ hi
  rw [htab] at hcell
  exact tz_core x _ _ w (by simp; omega) (tz_key x _ hx hx0 hlow) hi hk hcell

set_option maxHeartbeats 1600000 in
theorem times_any (n a b : Nat) (w : World) (ha : a < n) (hb : b < n) (hn : n < 18446744073709551616) :
    Calls Tryd.prog 92 #[.int .u64 (a : Int), .int .u64 (b : Int), .int .u64 (n : Int)] w fun e w' => e = .returned (.int .u64 (ml n a b : Int)) ∧ Below w.heap.size w w' := by
  have C2 := hide (fun w => mul64_any a b w (by omega) (by omega))
  have hhi := mul_hi_lt ha hb (by omega)
  have hlo := Nat.mod_lt (a * b) (show 0 < 18446744073709551616 by omega)
  have hT := Nat.div_add_mod (a * b) 18446744073709551616
  have hR : ml n a b = a * b % n := rfl
  generalize a * b / 18446744073709551616 = hi at *
  generalize a * b % 18446744073709551616 = lo at *
  rw [← hT] at hR
  have C3 := fun w => div64_nat hi lo n w hhi hlo hn
  rw [← hR] at C3
  have C3 := hide C3
  generalize (18446744073709551616 * hi + lo) / n = Q at *
  generalize ml n a b = z at *
  clear hR hT
  go_enter Tryd.func92, Tryd.ntmps92
  go_wp2_with fail
  refine (unhide C2 _).mono ?_
  rintro e w1 ⟨rfl, rfl⟩
  go_wp2_with fail
  refine (unhide C3 _).mono ?_
  rintro e w2 ⟨rfl, b1⟩
  go_wp2
  go_ret
  exact ⟨ret_int rfl, b1⟩

theorem ptmod_nat (a b : Nat) : (a : Int).tmod (b : Int) = ((a % b : Nat) : Int) := rfl

set_option maxHeartbeats 1600000 in
theorem power_any (n A K : Nat) (w : World) (h1 : 1 < n) (hA : A < n) (hn : n < 18446744073709551616) (hK : K < 18446744073709551616) :
    Calls Tryd.prog 91 #[.int .u64 (A : Int), .int .u64 (K : Int), .int .u64 (n : Int)] w fun e w' => e = .returned (.int .u64 (pw n A K : Int)) ∧ Below w.heap.size w w' := by
  have CM : Hid (∀ x y w, x < n → y < n → Calls Tryd.prog 92 #[.int .u64 ((x : Nat) : Int), .int .u64 ((y : Nat) : Int), .int .u64 (n : Int)] w fun e w' => e = .returned (.int .u64 (ml n x y : Int)) ∧ Below w.heap.size w w') := fun x y w hx hy => times_any n x y w hx hy hn
  have H0 := hide (pwAt_start (n := n) (A := A) K h1 hA)
  have H1 : Hid (∀ o s k, PwAt n A K o s k → o < n ∧ s < n) := fun o s k h => ⟨h.1, h.2.1⟩
  have H2 := hide (fun o s k => pwAt_odd (n := n) (A := A) (K := K) (o := o) (s := s) (k := k))
  have H3 := hide (fun o s k => pwAt_even (n := n) (A := A) (K := K) (o := o) (s := s) (k := k))
  have H4 := hide (fun o s => pwAt_end (n := n) (A := A) (K := K) (o := o) (s := s))
  generalize PwAt n A K = T at *
  generalize pw n A K = Z at *
  generalize ml n = M at *
  go_enter Tryd.func91, Tryd.ntmps91
  go_wp2
  go_loopw [7, 0, 1] (fun ov sv kv wr => ∃ (o s k : Nat), k < 18446744073709551616 ∧ ov = .int .u64 (o : Int) ∧ sv = .int .u64 (s : Int) ∧ kv = .int .u64 (k : Int) ∧ Hid (T o s k) ∧ Below w.heap.size w wr) (fun _ _ kv _ => (intOf kv).toNat)
  case atStart => exact ⟨1, A, K, hK, rfl, rfl, rfl, H0, Below.refl _ _⟩
  case round =>
    obtain ⟨o, s, k, hk, rfl, rfl, rfl, hE, hb⟩ := hrel
    obtain ⟨ho, hs⟩ := unhide H1 _ _ _ hE.out
    by_cases h0 : k = 0
    · subst h0
      have e : (o : Int) = (Z : Int) := by rw [unhide H4 _ _ hE.out]
      have HE := hide e
      clear e hE H0 H1 H2 H3 H4 CM
      go_wp2
      go_ret
      exact ⟨ret_int (unhide HE), hb⟩
    · have hpos : (0 : Int) < (k : Int) := by omega
      have e1 : (k : Int).tmod 2 = ((k % 2 : Nat) : Int) := ptmod_nat k 2
      have e2 : (k : Int).tdiv 2 = ((k / 2 : Nat) : Int) := rfl
      have e3 : (k : Int) / 2 = ((k / 2 : Nat) : Int) := by omega
      have hlt : Hid (k / 2 < k) := by show _ < _; omega
      have hk2 : k / 2 < 18446744073709551616 := by omega
      by_cases h2 : k % 2 = 1
      · have HE := hide (unhide H2 _ _ _ hE.out h2)
        rw [h2] at e1
        have C1 := hide (unhide CM o s · ho hs)
        have C2 := hide (unhide CM s s · hs hs)
        clear hE H0 H1 H2 H3 H4 CM h0 h2 ho hs
        generalize k / 2 = j at *
        go_wp2_with fail
        refine (unhide C1 _).mono ?_
        rintro e w6 ⟨rfl, b2⟩
        have hb := bstep hb b2
        clear b2
        go_wp2_with fail
        refine (unhide C2 _).mono ?_
        rintro e w7 ⟨rfl, b2⟩
        have hb := bstep hb b2
        clear b2
        go_wp2
        go_roundw
        case rel => exact ⟨_, _, j, hk2, rfl, rfl, by go_num, HE, hb⟩
        case measure => simp [intOf]; exact unhide hlt
      · have HE := hide (unhide H3 _ _ _ hE.out h2)
        have h2' : k % 2 = 0 := by omega
        rw [h2'] at e1
        have C2 := hide (unhide CM s s · hs hs)
        clear hE H0 H1 H2 H3 H4 CM h0 h2 h2' ho hs
        generalize k / 2 = j at *
        go_wp2_with fail
        refine (unhide C2 _).mono ?_
        rintro e w7 ⟨rfl, b2⟩
        have hb := bstep hb b2
        clear b2
        go_wp2
        go_roundw
        case rel => exact ⟨_, _, j, hk2, rfl, rfl, by go_num, HE, hb⟩
        case measure => simp [intOf]; exact unhide hlt

end Go.Proofs.YtpifgkhgnilpdaaDoor
