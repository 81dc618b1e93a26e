/- ConvThrees: what the law's walk comes to, once the code's Three is what the document asks. -/
import Derived.Test.YtpifgkhgnilpdaaM6
import Derived.Test.YtpifgkhgnilpdaaM2
import Derived.Test.YtpifgkhgnilpdaaM7
import Derived.Test.YtpifgkhgnilpdaaCPThree
namespace Go.Proofs.Ytpifgkhgnilpdaa
open Go.RowKit

/-- Three: the least number that has three remainders. -/
def SpecThree : Prop := ∀ (w : World) (r0 r1 r2 : Nat), r0 < 18446744073709551616 → r1 < 18446744073709551616 → r2 < 18446744073709551616 →
  Calls Try.prog 6 #[.int .u64 (r0 : Int), .int .u64 (r1 : Int), .int .u64 (r2 : Int)] w fun e w' => ∃ t0 t1 t2 : Nat, e = .returned (.agg #[.int .u64 (t0 : Int), .int .u64 (t1 : Int), .int .u64 (t2 : Int)]) ∧ t0 < 18446744073709551616 ∧ t1 < 18446744073709551616 ∧ t2 < 18446744073709551616 ∧ v3 t0 t1 t2 % tp0 = r0 % tp0 ∧ v3 t0 t1 t2 % tp1 = r1 % tp1 ∧ v3 t0 t1 t2 % tp2 = r2 % tp2 ∧ v3 t0 t1 t2 < tp0 * tp1 * tp2 ∧ Below w.heap.size w w'

set_option maxHeartbeats 800000 in
theorem rMod_any (w : World) (u v : Value) (a d L : Nat) (hL : L ≤ 1073741824) (ha : a < 4294967296 ^ L) (hd : d < 4294967296 ^ L) (hpos : 0 < d) (hu : IsN w u a) (hv : IsN w v d) :
    Calls Try.prog 10 #[u, v] w fun e w' => ∃ r, e = .returned r ∧ IsN w' r (a % d) ∧ Below w.heap.size w w' := by
  have C := hide (divmod_any w u v a d L hL ha hd hpos hu hv)
  clear ha hd hpos hu hv hL
  generalize a % d = M at *
  go_enter Try.func10, Try.ntmps10
  go_wp2_with fail
  refine (unhide C).mono ?_
  rintro e w1 ⟨q, r, rfl, _, nr, b⟩
  go_wp2
  go_ret
  exact ⟨r, rfl, nr, b⟩

def tps : List Nat := [tp0, tp1, tp2]
def mps : Nat → Nat
  | 0 => 1
  | i + 1 => mps i * tps.getD i 0
theorem mps_end : mps 3 = tp0 * tp1 * tp2 := by decide +kernel
theorem mps_lt : ∀ i, i ≤ 3 → mps i < 4294967296 ^ 6 := by decide +kernel
theorem tps_in : ∀ i, i < 3 → 0 < tps.getD i 0 ∧ tps.getD i 0 < 18446744073709551616 := by decide +kernel
theorem tps_cell (i : Nat) (h : i < 3) : (#[.int .u64 180143985094819841, .int .u64 1945555039024054273, .int .u64 4179340454199820289] : Array Value)[i]? = some (.int .u64 (tps.getD i 0 : Int)) := by
  match i, h with
  | 0, _ => rfl
  | 1, _ => rfl
  | 2, _ => rfl
theorem rem_all {X r0 r1 r2 : Nat} (h0 : X % tp0 = r0 % tp0) (h1 : X % tp1 = r1 % tp1) (h2 : X % tp2 = r2 % tp2) (i : Nat) (h : i < 3) : X % tps.getD i 0 = [r0, r1, r2].getD i 0 % tps.getD i 0 := by
  match i, h with
  | 0, _ => exact h0
  | 1, _ => exact h1
  | 2, _ => exact h2
theorem three_word {r0 r1 r2 : Nat} (h : r0 < 18446744073709551616 ∧ r1 < 18446744073709551616 ∧ r2 < 18446744073709551616) (i : Nat) : [r0, r1, r2].getD i 0 < 18446744073709551616 := by
  match i with
  | 0 => exact h.1
  | 1 => exact h.2.1
  | 2 => exact h.2.2
  | i + 3 => exact Nat.zero_lt_succ _

set_option maxRecDepth 100000 in
set_option maxHeartbeats 6400000 in
theorem convThrees_any (ST : SpecThree) (SW : SpecWakes) (r0 r1 r2 : Nat) (w : World) (h0 : r0 < 18446744073709551616) (h1 : r1 < 18446744073709551616) (h2 : r2 < 18446744073709551616) :
    Calls Try.prog 3 #[.int .u64 (r0 : Int), .int .u64 (r1 : Int), .int .u64 (r2 : Int)] w fun e w' => e = .returned (.bool true) ∧ Below w.heap.size w w' := by
  have CT := hide (ST w r0 r1 r2 h0 h1 h2)
  have CW := hide SW
  have C3 := hide (fun w => rThree_any w)
  have HR : Hid (r0 < 18446744073709551616 ∧ r1 < 18446744073709551616 ∧ r2 < 18446744073709551616) := ⟨h0, h1, h2⟩
  clear ST SW h0 h1 h2
  go_enter Try.func3, Try.ntmps3
  go_wp2_with fail
  refine (unhide CT).mono ?_
  rintro e w1 ⟨t0, t1, t2, rfl, a0, a1, a2, m0, m1, m2, hlt, b1⟩
  have CL := hide (fun w => lawThree_any t0 t1 t2 w a0 a1 a2)
  have M0 := hide m0
  have M1 := hide m1
  have M2 := hide m2
  have HLT := hide hlt
  have bl := b1
  clear CT a0 a1 a2 m0 m1 m2 hlt b1
  generalize v3 t0 t1 t2 = X at *
  go_wp2_with fail
  refine (unhide CL _).mono ?_
  rintro e w2 ⟨vx, rfl, nx, b⟩
  have bl := bstep bl b
  clear b CL
  go_wp2_with fail
  refine (unhide C3 _).mono ?_
  rintro e w3 ⟨rfl, b⟩
  have bl := bstep bl b
  have nx := nx.next b
  clear b C3
  have bal : Below w3.heap.size w3 (w3.alloc (.cells #[.int .u64 180143985094819841, .int .u64 1945555039024054273, .int .u64 4179340454199820289] 26)) := (Below.refl _ _).alloc (Nat.le_refl _) _
  have CL : Hid (∀ i, i < 3 → (w3.alloc (.cells #[.int .u64 180143985094819841, .int .u64 1945555039024054273, .int .u64 4179340454199820289] 26)).cell? ⟨w3.heap.size, i, none⟩ = some (.int .u64 (tps.getD i 0 : Int))) := fun i hi => (cell_of_row _ w3.heap.size i _ 26 (0, 0) (heap_alloc_new w3 _)).trans (tps_cell i hi)
  have nx := nx.next bal
  have bl := bstep bl bal
  obtain ⟨W4, hW4⟩ : ∃ W4, w3.alloc (.cells #[.int .u64 180143985094819841, .int .u64 1945555039024054273, .int .u64 4179340454199820289] 26) = W4 := ⟨_, rfl⟩
  have s4 : w3.heap.size < W4.heap.size := by rw [← hW4]; simp
  rw [hW4] at CL nx bl
  obtain ⟨Gl, hGl⟩ : ∃ Gl, w3.heap.size = Gl := ⟨_, rfl⟩
  rw [hGl] at CL s4
  have CS1 : Hid (Calls Try.prog 8 #[.int .u64 1] W4 fun e w' => ∃ v, e = .returned v ∧ IsN w' v 1 ∧ Below W4.heap.size W4 w') := small_any 1 (by decide) (by decide) W4
  clear bal
  go_wp2_with fail
  refine (unhide CS1).mono ?_
  rintro e w5 ⟨vm, rfl, nm, b⟩
  have CL5 : Hid (∀ i, i < 3 → w5.cell? ⟨Gl, i, none⟩ = some (.int .u64 (tps.getD i 0 : Int))) := fun i hi => (b.cell (p := ⟨Gl, i, none⟩) s4).trans (unhide CL i hi)
  have nx := nx.next b
  have bl := bstep bl b
  have s5 : Gl < w5.heap.size := by have := b.size; omega
  have bal : Below w5.heap.size w5 (w5.alloc (.cells #[.int .u64 (r0 : Int), .int .u64 (r1 : Int), .int .u64 (r2 : Int)] 22)) := (Below.refl _ _).alloc (Nat.le_refl _) _
  have hR := blk_three w5 r0 r1 r2
  have NX := hide (nx.next bal)
  have NM := hide (nm.next bal)
  have BL := hide (bstep bl bal)
  have CL6 : Hid (∀ i, i < 3 → (w5.alloc (.cells #[.int .u64 (r0 : Int), .int .u64 (r1 : Int), .int .u64 (r2 : Int)] 22)).cell? ⟨Gl, i, none⟩ = some (.int .u64 (tps.getD i 0 : Int))) := fun i hi => (bal.cell (p := ⟨Gl, i, none⟩) s5).trans (unhide CL5 i hi)
  obtain ⟨W6, hW6⟩ : ∃ W6, w5.alloc (.cells #[.int .u64 (r0 : Int), .int .u64 (r1 : Int), .int .u64 (r2 : Int)] 22) = W6 := ⟨_, rfl⟩
  rw [hW6] at hR NX NM BL CL6
  obtain ⟨Gr, hGr⟩ : ∃ Gr, w5.heap.size = Gr := ⟨_, rfl⟩
  rw [hGr] at hR
  have HRB := hide hR
  have sl : Gl < W6.heap.size := by have := hR.lt; rw [hGr] at s5; omega
  have sr : Gr < W6.heap.size := hR.lt
  have HREM := hide (fun i h => rem_all (unhide M0) (unhide M1) (unhide M2) i h)
  have HRW := hide (fun i => three_word (unhide HR) i)
  have HXL : Hid (X < 4294967296 ^ 6) := Nat.lt_trans (unhide HLT) (by decide +kernel)
  clear CS1 CL CL5 nx nm bl b bal hR s4 s5 hW4 hGl M0 M1 M2 HR
  go_wp2
  clear hW6 hGr
  go_loopw [9, 11] (fun mv iv wr => ∃ (i : Nat) (M : Nat), i ≤ 3 ∧ iv = .int .i64 (i : Int) ∧ Hid (M = mps i) ∧ IsN wr mv M ∧ Below W6.heap.size W6 wr) (fun _ iv _ => 3 - (intOf iv).toNat)
  case atStart => exact ⟨0, 1, by omega, rfl, rfl, unhide NM, Below.refl _ _⟩
  case round =>
    clear NM
    obtain ⟨i, M, hi, rfl, hMi, hN, hb⟩ := hrel
    by_cases h1 : i < 3
    · have hi1 : (i : Int) < 3 := by omega
      have hmm : Hid (3 - (i + 1) < 3 - i) := by show _ < _; omega
      obtain ⟨P, hP⟩ : ∃ P, P = tps.getD i 0 := ⟨_, rfl⟩
      obtain ⟨r, hr⟩ : ∃ r, r = [r0, r1, r2].getD i 0 := ⟨_, rfl⟩
      obtain ⟨p0', p1'⟩ := tps_in i h1
      rw [← hP] at p0' p1'
      have hrw := unhide HRW i
      rw [← hr] at hrw
      have hrem := unhide HREM i h1
      rw [← hP, ← hr] at hrem
      obtain ⟨R, hRR⟩ : ∃ R, R = r % P := ⟨_, rfl⟩
      rw [← hRR] at hrem
      have eR : (r : Int).tmod (P : Int) = (R : Int) := by rw [hRR]; rfl
      have eR2 : (r : Int) % (P : Int) = (R : Int) := by rw [hRR]; rfl
      have hPz : ¬ (P : Int) = 0 := by omega
      have hRP : R < P := by rw [hRR]; exact Nat.mod_lt _ p0'
      have CLi : Hid (∀ W, Below W6.heap.size W6 W → W.cell? ⟨Gl, i, none⟩ = some (.int .u64 (P : Int))) := fun W b => by rw [hP]; exact (b.cell (p := ⟨Gl, i, none⟩) sl).trans (unhide CL6 i h1)
      have CRi : Hid (∀ W, Below W6.heap.size W6 W → W.cell? ⟨Gr, i, none⟩ = some (.int .u64 (r : Int))) := fun W b => by rw [hr]; exact (b.cell (p := ⟨Gr, i, none⟩) sr).trans ((unhide HRB).cell i h1)
      have hM2 : Hid (M * P = mps (i + 1)) := by show _ = _; rw [hMi.out, hP]; rfl
      have HML : Hid (M < 4294967296 ^ 6) := by rw [hMi.out]; exact mps_lt i (by omega)
      have HPL : Hid (P < 4294967296 ^ 6) := Nat.lt_trans p1' (by decide +kernel)
      have HRL : Hid (R < 4294967296 ^ 6) := Nat.lt_trans hRP (unhide HPL)
      have HP0 := hide p0'
      have HP1 := hide p1'
      have HR1 : Hid (R < 18446744073709551616) := Nat.lt_trans hRP p1'
      have HX2 : Hid (X % P = R) := hrem
      have cl := unhide CLi wr hb
      clear hP hr hrw hrem hRR p0' p1' hRP hMi
      go_wp2_with fail
      refine (small_any (P : Int) (by omega) (by have := unhide HP1; omega) _).mono ?_
      rintro e wA ⟨vp, rfl, np, bA⟩
      rw [Int.toNat_natCast] at np
      have hb := hb.trans (bA.mono hb.size)
      have hN := hN.next bA
      have cl := unhide CLi wA hb
      have cr := unhide CRi wA hb
      have nx := (unhide NX).next hb
      have bl : Below W6.heap.size W6 wA.drew := hb.drew
      have nx := nx.drew
      have np := np.drew
      have nm := hN.drew
      clear bA hb hN
      go_wp2
      go_region_with (first
        | (go_at_call 10; refine (rMod_any _ _ _ X P 6 (by omega) (unhide HXL) (unhide HPL) (unhide HP0) nx np).mono ?_; rintro e wB ⟨vB, rfl, nB, bB⟩; rw [unhide HX2] at nB; have bl := bl.trans (bB.mono bl.size); have cl := unhide CLi _ bl; have cr := unhide CRi _ bl; have nx := nx.next bB; have np := np.next bB; have nm := nm.next bB; try have nC := nC.next bB)
        | (go_at_call 8; refine (small_any (R : Int) (by omega) (by have := unhide HR1; omega) _).mono ?_; rintro e wC ⟨vC, rfl, nC, bC⟩; rw [Int.toNat_natCast] at nC; have bl := bl.trans (bC.mono bl.size); have nx := nx.next bC; have np := np.next bC; have nm := nm.next bC; try have nB := nB.next bC)
        | (go_at_call 9; refine (cmp_any _ _ _ R R 6 (by omega) (unhide HRL) (unhide HRL) nB nC).mono ?_; rintro e wD ⟨rfl, bD⟩; rw [cmpN_eq rfl]; have bl := bl.trans (bD.mono bl.size); have np := np.next bD; have nm := nm.next bD))
      all_goals
        focus
          go_wp2_with fail
          refine (mul_any _ _ _ M P 6 (by omega) (unhide HML) (unhide HPL) nm np).mono ?_
          rintro e wE ⟨vE, rfl, nE, bE⟩
          have bl := bl.trans (bE.mono bl.size)
          go_wp2
          go_roundw
          case rel => exact ⟨i + 1, _, by omega, by go_num, hM2, nE, bl⟩
          case measure => simp [intOf]; have := unhide hmm; omega
    · obtain rfl : i = 3 := by omega
      have hM3 : M = tp0 * tp1 * tp2 := by rw [hMi.out]; exact mps_end
      have nx := (unhide NX).next hb
      have HML : Hid (M < 4294967296 ^ 6) := by rw [hMi.out]; exact mps_lt 3 (by omega)
      have hc : cmpN X M = -1 := cmpN_lt (by rw [hM3]; exact unhide HLT)
      have CC := hide (cmp_any wr _ _ X M 6 (by omega) (unhide HXL) (unhide HML) nx hN)
      rw [hc] at CC
      have bl := bstep (unhide BL) hb
      clear hc hM3 hMi nx hN hb
      go_wp2_with fail
      refine (unhide CC).mono ?_
      rintro e wD ⟨rfl, bD⟩
      have bl := bstep bl bD
      clear bD CC
      go_wp2_with fail
      refine (unhide CW _).mono ?_
      rintro e wE ⟨rfl, bE⟩
      have bl := bstep bl bE
      go_wp2
      go_ret
      exact ⟨rfl, bl⟩

end Go.Proofs.Ytpifgkhgnilpdaa
