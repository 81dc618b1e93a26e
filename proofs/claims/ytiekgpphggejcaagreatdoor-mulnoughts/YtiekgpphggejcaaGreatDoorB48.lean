/- Kara, Toom, the hand and transforms, handed the engine's own products. -/
import Derived.Test.YtiekgpphggejcaaGreatDoorB45
import Derived.Test.YtiekgpphggejcaaGreatDoorB42
import Derived.Test.YtiekgpphggejcaaGreatDoorB44
import Derived.Test.YtiekgpphggejcaaGreatDoorB33
namespace Go.Proofs.YtiekgpphggejcaaGreatDoor
open Go.RowKit

theorem go_times (args : Array Value) (W : World) : (callFunc 37 args).run Tryz.prog W = .ok (.enter 37 args) W := by
  kernel_rfl
theorem go_square (args : Array Value) (W : World) : (callFunc 45 args).run Tryz.prog W = .ok (.enter 45 args) W := by
  kernel_rfl
theorem args_two (p u v : Value) : #[p] ++ #[u, v] ++ #[] = #[p, u, v] := by simp
theorem args_one (p u : Value) : #[p] ++ #[u] ++ #[] = #[p, u] := by simp
theorem out_or {g : Nat} {a b : World} (o : Out (· = g) a b) : Out (fun j => False ∨ j = g) a b := o.mono (fun _ e => Or.inr e)
theorem out_un {g : Nat} {a b : World} (o : Out (fun j => False ∨ j = g) a b) : Out (· = g) a b := o.mono (fun _ e => e.resolve_left id)

theorem kara_times {M : Nat} (IH : TimesSpec M) (hM : M ≤ 16384) {w : World} {gm gt gk ge g : Nat} {s l m : Int} {T : Tab} (hE : MEng w gm gt gk ge g s l m T) (hT : TB w)
    (h0 : 0 ≤ s) (h1 : s + 35184372088832 * ((M : Int) + 2) ≤ 2305843009213693952) (h2 : 0 ≤ l) (h3 : l + 1 + (M : Int) ≤ 100000)
    {ga gb : Option Addr} {b o cap la b' o' cap' lb h : Nat} {xs ys : List Nat} (hxl : xs.length = la) (hR : Rep w ga b o cap xs) (hdx : WDig xs) (hyl : ys.length = lb) (hR' : Rep w gb b' o' cap' ys) (hdy : WDig ys) (hla : la ≤ 16384) (hlb : lb ≤ 16384)
    (hh : h = (max la lb + 1) / 2) (hlt : h < min la lb) (hp : h + 1 ≤ M) :
    Calls Tryz.prog 62 #[.pointer (some ⟨gk, 0, none⟩), .slice ga la cap, .slice gb lb cap', .func (.func 37) #[.pointer (some ⟨gm, 0, none⟩)] #[]] w
      (ByDone w gm gt gk ge g s l m T (wval xs * wval ys) (bcst T.B T.D T.N 3 (max la lb) (min la lb)) (lev M + 1)) := by
  have ac := acc_le (kcost_le T.ent (n := max la lb) (m := min la lb) (h := h) (by omega) (by omega) (by omega))
  refine (spec_kara w gk ge g s l m T ga gb b o cap la b' o' cap' lb h xs ys 37 #[.pointer (some ⟨gm, 0, none⟩)] #[] (fun _ => False) (StM gm gt gk ge g s l m T (lev M) (kcost T.B T.D T.N (max la lb) (min la lb) h))
    hE.toom.kara h2 (by omega) hxl hR hdx (fun _ x => x) hyl hR' hdy (fun _ x => x) hla hlb hh hlt (fun x => x) (fun x => x) (fun x => x) (fun _ x => x.elim) ⟨go_times, fun i W W' st b => st.next b, fun i W st => ?_, fun i W u v a c hi st iu iv => ?_⟩ (fun W oo K => ?_)).mono ?_
  · obtain ⟨m1, E, _, _, _⟩ := st
    exact ⟨_, m1, E.toom.kara⟩
  · rw [args_two]
    have ai := ac i
    have hi2 : i * 2147483648 ≤ 3 * 2147483648 := Nat.mul_le_mul_right _ (by omega)
    refine (st.call IH hM h0 h1 h2 h3 (by omega) (Nat.le_refl _) iu iv ?_ ?_ ?_).mono ?_
    · clear ai hi2 ac st
      match i, hi with
      | 0, _ => show h ≤ M; omega
      | 1, _ => show max la lb - h ≤ M; omega
      | 2, _ => show h + 1 ≤ M; omega
    · clear ai hi2 ac st
      match i, hi with
      | 0, _ => show h ≤ h; omega
      | 1, _ => show min la lb - h ≤ max la lb - h; omega
      | 2, _ => show h + 1 ≤ h + 1; omega
    · clear ai hi2 ac st
      match i, hi with
      | 0, _ => rfl
      | 1, _ => rfl
      | 2, _ => rfl
    · rintro e W' ⟨r, rfl, nr, st', oo⟩
      exact ⟨r, rfl, nr, st', out_or oo⟩
  · exact ⟨_, by rw [acc, Int.natCast_zero, Int.add_zero]; exact hE.kept oo (hE.toom.kept oo K), Int.le_refl _, by omega, hE.tb oo hT⟩
  · rintro e w' ⟨v, W, rfl, nv, ⟨m1, E, q1, q2, tb⟩, o1, hk, o2⟩
    have o3 := out_un o2
    have K' := hk _ _ E.toom.kara
    have ec : acc (kcost T.B T.D T.N (max la lb) (min la lb) h) 3 = bcst T.B T.D T.N 3 (max la lb) (min la lb) := by
      subst hh
      simp [acc, kcost, bcst]
    rw [ec] at K'
    exact ⟨v, m1, rfl, nv, hE.kept o3 (hE.toom.kept o3 K'), by omega, by omega, o3⟩

theorem toom_times {M : Nat} (IH : TimesSpec M) (hM : M ≤ 16384) {w : World} {gm gt gk ge g : Nat} {s l m : Int} {T : Tab} (hE : MEng w gm gt gk ge g s l m T) (hT : TB w)
    (h0 : 0 ≤ s) (h1 : s + 35184372088832 * ((M : Int) + 2) ≤ 2305843009213693952) (h2 : 0 ≤ l) (h3 : l + 1 + (M : Int) ≤ 100000)
    {ga gb : Option Addr} {b o cap la b' o' cap' lb h : Nat} {xs ys : List Nat} (hxl : xs.length = la) (hR : Rep w ga b o cap xs) (hdx : WDig xs) (hyl : ys.length = lb) (hR' : Rep w gb b' o' cap' ys) (hdy : WDig ys) (hla : la ≤ 16384) (hlb : lb ≤ 16384)
    (hh : h = (max la lb + 2) / 3) (hlt : 2 * h < min la lb) (hp : h + 1 ≤ M) :
    Calls Tryz.prog 63 #[.pointer (some ⟨gt, 0, none⟩), .slice ga la cap, .slice gb lb cap', .func (.func 37) #[.pointer (some ⟨gm, 0, none⟩)] #[]] w
      (ByDone w gm gt gk ge g s l m T (wval xs * wval ys) (bcst T.B T.D T.N 4 (max la lb) (min la lb)) (lev M + 1)) := by
  have ac := acc_le (tcost_le T.ent (n := max la lb) (m := min la lb) (h := h) (by omega) (by omega) (by omega))
  refine (spec_toom w gt gk ge g s l m T ga gb b o cap la b' o' cap' lb h xs ys 37 #[.pointer (some ⟨gm, 0, none⟩)] #[] (fun _ => False) (StM gm gt gk ge g s l m T (lev M) (tcost T.B T.D T.N (max la lb) (min la lb) h))
    hE.toom h2 (by omega) hxl hR hdx (fun _ x => x) hyl hR' hdy (fun _ x => x) hla hlb hh hlt (fun x => x) (fun x => x) (fun x => x) (fun x => x) (fun _ x => x.elim) ⟨go_times, fun i W W' st oo => st.far hE hT oo, fun i W st => ?_, fun i W u v a c hi st iu iv => ?_⟩ (fun W oo K => ?_)).mono ?_
  · obtain ⟨m1, E, _, _, _⟩ := st
    exact ⟨_, m1, E.toom⟩
  · rw [args_two]
    have ai := ac i
    have hi2 : i * 2147483648 ≤ 5 * 2147483648 := Nat.mul_le_mul_right _ (by omega)
    refine (st.call IH hM h0 h1 h2 h3 (by omega) (Nat.le_refl _) iu iv ?_ ?_ ?_).mono ?_
    · clear ai hi2 ac st
      match i, hi with
      | 0, _ => show h ≤ M; omega
      | 1, _ => show h + 1 ≤ M; omega
      | 2, _ => show h + 1 ≤ M; omega
      | 3, _ => show h + 1 ≤ M; omega
      | 4, _ => show max la lb - 2 * h ≤ M; omega
    · clear ai hi2 ac st
      match i, hi with
      | 0, _ => show h ≤ h; omega
      | 1, _ => show h + 1 ≤ h + 1; omega
      | 2, _ => show h + 1 ≤ h + 1; omega
      | 3, _ => show h + 1 ≤ h + 1; omega
      | 4, _ => show min la lb - 2 * h ≤ max la lb - 2 * h; omega
    · clear ai hi2 ac st
      match i, hi with
      | 0, _ => rfl
      | 1, _ => rfl
      | 2, _ => rfl
      | 3, _ => rfl
      | 4, _ => rfl
    · rintro e W' ⟨r, rfl, nr, st', oo⟩
      exact ⟨r, rfl, nr, st', out_or oo⟩
  · exact ⟨_, by rw [acc, Int.natCast_zero, Int.add_zero]; exact hE.kept oo K, Int.le_refl _, by omega, hE.tb oo hT⟩
  · rintro e w' ⟨v, W, rfl, nv, ⟨m1, E, q1, q2, tb⟩, o1, hk, o2⟩
    have o3 := out_un o2
    have K' := hk _ _ E.toom
    have ec : acc (tcost T.B T.D T.N (max la lb) (min la lb) h) 5 = bcst T.B T.D T.N 4 (max la lb) (min la lb) := by
      subst hh
      simp [acc, tcost, bcst]
      omega
    rw [ec] at K'
    exact ⟨v, m1, rfl, nv, hE.kept o3 K', by omega, by omega, o3⟩

theorem max_min_mul (n m : Nat) : max n m * min n m = n * m := by
  by_cases hc : m ≤ n
  · rw [Nat.max_eq_left hc, Nat.min_eq_right hc]
  · rw [Nat.max_eq_right (by omega), Nat.min_eq_left (by omega), Nat.mul_comm]
theorem tf_mm (n m k : Nat) : tf (max n m) (min n m) k = tf n m k := by
  by_cases hc : m ≤ n
  · rw [Nat.max_eq_left hc, Nat.min_eq_right hc]
  · rw [Nat.max_eq_right (by omega), Nat.min_eq_left (by omega), tf_comm]

theorem school_times {w : World} {gm gt gk ge g : Nat} {s l m : Int} {T : Tab} (hE : MEng w gm gt gk ge g s l m T) (h0 : 0 ≤ s) (h1 : s ≤ 2305843009213693952)
    {ga gb : Option Addr} {b o cap la b' o' cap' lb : Nat} {xs ys : List Nat} (hxl : xs.length = la) (hR : Rep w ga b o cap xs) (hdx : WDig xs) (hyl : ys.length = lb) (hR' : Rep w gb b' o' cap' ys) (hdy : WDig ys) (hla : la ≤ 16384) (hlb : lb ≤ 16384) :
    Calls Tryz.prog 61 #[.pointer (some ⟨ge, 0, none⟩), .slice ga la cap, .slice gb lb cap'] w fun e w' => ∃ r, e = .returned r ∧ OneDone w gm gt gk ge g s l m T (wval xs * wval ys) (bcst T.B T.D T.N 1 (max la lb) (min la lb)) 0 r w' := by
  have iu : InG g w (.slice ga la cap) (wval xs) la := ⟨_, _, _, _, xs, rfl, hxl, hR, hdx, rfl, by rw [← hxl]; exact hE.eng.away hR⟩
  have iv : InG g w (.slice gb lb cap') (wval ys) lb := ⟨_, _, _, _, ys, rfl, hyl, hR', hdy, rfl, by rw [← hyl]; exact hE.eng.away hR'⟩
  refine (schoolMul_t hE.eng _ _ _ _ la lb iu iv (by omega) (by omega) h0 (by omega)).mono ?_
  rintro e w' ⟨r, rfl, k1, k2, k3⟩
  have ec : bcst T.B T.D T.N 1 (max la lb) (min la lb) = la * lb := by
    simp only [bcst, if_true]
    exact max_min_mul la lb
  rw [ec]
  exact ⟨r, rfl, m, k1, hE.step k2.met k3, Int.le_refl _, by omega, Out.of_grown k3.grown⟩
theorem conv_times {w : World} {gm gt gk ge g : Nat} {s l m : Int} {T : Tab} (hE : MEng w gm gt gk ge g s l m T) (hT : TB w) (h0 : 0 ≤ s) (h1 : s ≤ 2305843009213693952)
    {ga gb : Option Addr} {b o cap la b' o' cap' lb : Nat} {xs ys : List Nat} (hxl : xs.length = la) (hR : Rep w ga b o cap xs) (hdx : WDig xs) (hyl : ys.length = lb) (hR' : Rep w gb b' o' cap' ys) (hdy : WDig ys) (hla : la ≤ 16384) (hlb : lb ≤ 16384) (ha : 1 ≤ la) (hb : 1 ≤ lb) :
    Calls Tryz.prog 64 #[.pointer (some ⟨g, 0, none⟩), .slice ga la cap, .slice gb lb cap'] w (ByDone w gm gt gk ge g s l m T (wval xs * wval ys) (bcst T.B T.D T.N 5 (max la lb) (min la lb)) 0) := by
  refine (convMul_any w g 0 s l m ga gb b o cap la b' o' cap' lb xs ys hT hE.met h0 h1 hxl hR hdx hyl hR' hdy ha hla hb hlb).mono ?_
  rintro e w' ⟨r, rfl, k1, k2, k3⟩
  have ec : bcst T.B T.D T.N 5 (max la lb) (min la lb) = tf la lb 3 := by
    simp [bcst]
    exact tf_mm la lb 3
  rw [ByDone, ec]
  exact ⟨r, m, rfl, k1, hE.step k2 k3, Int.le_refl _, by omega, Out.of_grown k3.grown⟩

end Go.Proofs.YtiekgpphggejcaaGreatDoor

/- KaraSqr, ToomSqr, squares by hand and by transforms, handed the engine's own squares. -/
namespace Go.Proofs.YtiekgpphggejcaaGreatDoor
open Go.RowKit

/-- What a square of n words costs that goes route r first. -/
def bsqt (B D N r n : Nat) : Nat :=
  if r = 1 then n * (n + 1) / 2
  else if r = 3 then sqt B D N ((n + 1) / 2) + sqt B D N (n - (n + 1) / 2) + sqt B D N ((n + 1) / 2 + 1)
  else if r = 4 then sqt B D N ((n + 2) / 3) + 3 * sqt B D N ((n + 2) / 3 + 1) + sqt B D N (n - 2 * ((n + 2) / 3))
  else if r = 5 then tf n n 2 else 0

theorem kara_sq {M : Nat} (IH : SquareSpec M) (hM : M ≤ 16384) {w : World} {gm gt gk ge g : Nat} {s l m : Int} {T : Tab} (hE : MEng w gm gt gk ge g s l m T) (hT : TB w)
    (h0 : 0 ≤ s) (h1 : s + 35184372088832 * ((M : Int) + 2) ≤ 2305843009213693952) (h2 : 0 ≤ l) (h3 : l + 1 + (M : Int) ≤ 100000)
    {ga : Option Addr} {b o cap la h : Nat} {xs : List Nat} (hxl : xs.length = la) (hR : Rep w ga b o cap xs) (hdx : WDig xs) (hla : la ≤ 16384)
    (hh : h = (la + 1) / 2) (hlt : 2 ≤ la) (hp : h + 1 ≤ M) :
    Calls Tryz.prog 56 #[.pointer (some ⟨gk, 0, none⟩), .slice ga la cap, .func (.func 45) #[.pointer (some ⟨gm, 0, none⟩)] #[]] w
      (ByDone w gm gt gk ge g s l m T (wval xs * wval xs) (bsqt T.B T.D T.N 3 la) (lev M + 1)) := by
  have ac := acc_le (ksq_le T.ent (n := la) (h := h) hla (by omega))
  refine (spec_ksqr w gk ge g s l m T ga b o cap la h xs 45 #[.pointer (some ⟨gm, 0, none⟩)] #[] (fun _ => False) (StM gm gt gk ge g s l m T (lev M) (ksq T.B T.D T.N la h))
    hE.toom.kara h2 (by omega) hxl hR hdx (fun _ x => x) hla hh hlt (fun x => x) (fun x => x) (fun x => x) (fun _ x => x.elim) ⟨go_square, fun i W W' st b => st.next b, fun i W st => ?_, fun i W u a hi st iu => ?_⟩ (fun W oo K => ?_)).mono ?_
  · obtain ⟨m1, E, _, _, _⟩ := st
    exact ⟨_, m1, E.toom.kara⟩
  · rw [args_one]
    have ai := ac i
    have hi2 : i * 2147483648 ≤ 3 * 2147483648 := Nat.mul_le_mul_right _ (by omega)
    refine (st.sqr IH hM h0 h1 h2 h3 (by omega) (Nat.le_refl _) iu ?_ ?_).mono ?_
    · clear ai hi2 ac st
      match i, hi with
      | 0, _ => show h ≤ M; omega
      | 1, _ => show la - h ≤ M; omega
      | 2, _ => show h + 1 ≤ M; omega
    · clear ai hi2 ac st
      match i, hi with
      | 0, _ => rfl
      | 1, _ => rfl
      | 2, _ => rfl
    · rintro e W' ⟨r, rfl, nr, st', oo⟩
      exact ⟨r, rfl, nr, st', out_or oo⟩
  · exact ⟨_, by rw [acc, Int.natCast_zero, Int.add_zero]; exact hE.kept oo (hE.toom.kept oo K), Int.le_refl _, by omega, hE.tb oo hT⟩
  · rintro e w' ⟨v, W, rfl, nv, ⟨m1, E, q1, q2, tb⟩, o1, hk, o2⟩
    have o3 := out_un o2
    have K' := hk _ _ E.toom.kara
    have ec : acc (ksq T.B T.D T.N la h) 3 = bsqt T.B T.D T.N 3 la := by
      subst hh
      simp [acc, ksq, bsqt]
    rw [ec] at K'
    exact ⟨v, m1, rfl, nv, hE.kept o3 (hE.toom.kept o3 K'), by omega, by omega, o3⟩

theorem toom_sq {M : Nat} (IH : SquareSpec M) (hM : M ≤ 16384) {w : World} {gm gt gk ge g : Nat} {s l m : Int} {T : Tab} (hE : MEng w gm gt gk ge g s l m T) (hT : TB w)
    (h0 : 0 ≤ s) (h1 : s + 35184372088832 * ((M : Int) + 2) ≤ 2305843009213693952) (h2 : 0 ≤ l) (h3 : l + 1 + (M : Int) ≤ 100000)
    {ga : Option Addr} {b o cap la h : Nat} {xs : List Nat} (hxl : xs.length = la) (hR : Rep w ga b o cap xs) (hdx : WDig xs) (hla : la ≤ 16384)
    (hh : h = (la + 2) / 3) (hlt : 2 * h < la) (hp : h + 1 ≤ M) :
    Calls Tryz.prog 57 #[.pointer (some ⟨gt, 0, none⟩), .slice ga la cap, .func (.func 45) #[.pointer (some ⟨gm, 0, none⟩)] #[]] w
      (ByDone w gm gt gk ge g s l m T (wval xs * wval xs) (bsqt T.B T.D T.N 4 la) (lev M + 1)) := by
  have ac := acc_le (tsq_le T.ent (n := la) (h := h) hla (by omega))
  refine (spec_tsqr w gt gk ge g s l m T ga b o cap la h xs 45 #[.pointer (some ⟨gm, 0, none⟩)] #[] (fun _ => False) (StM gm gt gk ge g s l m T (lev M) (tsq T.B T.D T.N la h))
    hE.toom h2 (by omega) hxl hR hdx (fun _ x => x) hla hh hlt (fun x => x) (fun x => x) (fun x => x) (fun x => x) (fun _ x => x.elim) ⟨go_square, fun i W W' st oo => st.far hE hT oo, fun i W st => ?_, fun i W u a hi st iu => ?_⟩ (fun W oo K => ?_)).mono ?_
  · obtain ⟨m1, E, _, _, _⟩ := st
    exact ⟨_, m1, E.toom⟩
  · rw [args_one]
    have ai := ac i
    have hi2 : i * 2147483648 ≤ 5 * 2147483648 := Nat.mul_le_mul_right _ (by omega)
    refine (st.sqr IH hM h0 h1 h2 h3 (by omega) (Nat.le_refl _) iu ?_ ?_).mono ?_
    · clear ai hi2 ac st
      match i, hi with
      | 0, _ => show h ≤ M; omega
      | 1, _ => show h + 1 ≤ M; omega
      | 2, _ => show h + 1 ≤ M; omega
      | 3, _ => show h + 1 ≤ M; omega
      | 4, _ => show la - 2 * h ≤ M; omega
    · clear ai hi2 ac st
      match i, hi with
      | 0, _ => rfl
      | 1, _ => rfl
      | 2, _ => rfl
      | 3, _ => rfl
      | 4, _ => rfl
    · rintro e W' ⟨r, rfl, nr, st', oo⟩
      exact ⟨r, rfl, nr, st', out_or oo⟩
  · exact ⟨_, by rw [acc, Int.natCast_zero, Int.add_zero]; exact hE.kept oo K, Int.le_refl _, by omega, hE.tb oo hT⟩
  · rintro e w' ⟨v, W, rfl, nv, ⟨m1, E, q1, q2, tb⟩, o1, hk, o2⟩
    have o3 := out_un o2
    have K' := hk _ _ E.toom
    have ec : acc (tsq T.B T.D T.N la h) 5 = bsqt T.B T.D T.N 4 la := by
      subst hh
      simp [acc, tsq, bsqt]
      omega
    rw [ec] at K'
    exact ⟨v, m1, rfl, nv, hE.kept o3 K', by omega, by omega, o3⟩

theorem school_sq {w : World} {gm gt gk ge g : Nat} {s l m : Int} {T : Tab} (hE : MEng w gm gt gk ge g s l m T) (h0 : 0 ≤ s) (h1 : s ≤ 2305843009213693952)
    {ga : Option Addr} {b o cap la : Nat} {xs : List Nat} (hxl : xs.length = la) (hR : Rep w ga b o cap xs) (hdx : WDig xs) (hla : la ≤ 16384) :
    Calls Tryz.prog 55 #[.pointer (some ⟨ge, 0, none⟩), .slice ga la cap] w fun e w' => ∃ r, e = .returned r ∧ OneDone w gm gt gk ge g s l m T (wval xs * wval xs) (bsqt T.B T.D T.N 1 la) 0 r w' := by
  have iu : InG g w (.slice ga la cap) (wval xs) la := ⟨_, _, _, _, xs, rfl, hxl, hR, hdx, rfl, by rw [← hxl]; exact hE.eng.away hR⟩
  refine (schoolSqr_t hE.eng _ _ la _ iu (by omega) h0 (by omega) rfl).mono ?_
  rintro e w' ⟨r, rfl, k1, k2, k3⟩
  have ec : bsqt T.B T.D T.N 1 la = la * (la + 1) / 2 := by simp [bsqt]
  rw [ec]
  exact ⟨r, rfl, m, k1, hE.step k2.met k3, Int.le_refl _, by omega, Out.of_grown k3.grown⟩
theorem conv_sq {w : World} {gm gt gk ge g : Nat} {s l m : Int} {T : Tab} (hE : MEng w gm gt gk ge g s l m T) (hT : TB w) (h0 : 0 ≤ s) (h1 : s ≤ 2305843009213693952)
    {ga : Option Addr} {b o cap la : Nat} {xs : List Nat} (hxl : xs.length = la) (hR : Rep w ga b o cap xs) (hdx : WDig xs) (hla : la ≤ 16384) (ha : 1 ≤ la) :
    Calls Tryz.prog 58 #[.pointer (some ⟨g, 0, none⟩), .slice ga la cap] w (ByDone w gm gt gk ge g s l m T (wval xs * wval xs) (bsqt T.B T.D T.N 5 la) 0) := by
  refine (convSqr_any w g 0 s l m ga b o cap la xs hT hE.met h0 h1 hxl hR hdx ha hla).mono ?_
  rintro e w' ⟨r, rfl, k1, k2, k3⟩
  have ec : bsqt T.B T.D T.N 5 la = tf la la 2 := by simp [bsqt]
  rw [ByDone, ec]
  exact ⟨r, m, rfl, k1, hE.step k2 k3, Int.le_refl _, by omega, Out.of_grown k3.grown⟩

end Go.Proofs.YtiekgpphggejcaaGreatDoor
