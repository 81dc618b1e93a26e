/- addTo and takeFrom of limb: a row is added to a piece of another, or taken from it. -/
import Derived.Test.YtpifgkhgnilpdaaDoorM6
import Derived.Test.YtpifgkhgnilpdaaDoorCWord
import Derived.Deep.QuietTactic
import Derived.BigQuiet
import Derived.WalkSmall
namespace Go.Proofs.YtpifgkhgnilpdaaDoor
open Go.RowKit

/-- k words of bs are added at o; c is carried. -/
def WAddAt (z0 zs bs : List Nat) (o k c : Nat) : Prop := zs.length = z0.length ∧ WDig zs ∧ c ≤ 1 ∧ wval zs + 18446744073709551616 ^ (o + k) * c = wval z0 + 18446744073709551616 ^ o * wval (bs.take k)
theorem wadd_start {z0 : List Nat} (h : WDig z0) (bs : List Nat) (o : Nat) : WAddAt z0 z0 bs o 0 0 := ⟨rfl, h, by omega, by simp [wval]⟩
theorem wadd_step {z0 zs bs : List Nat} {o k c r b : Nat} (h : WAddAt z0 zs bs o k c) (hk : o + k < zs.length) (hr : r = zs.getD (o + k) 0) (hb : b = bs.getD k 0) (hb64 : b < 18446744073709551616) :
    WAddAt z0 (zs.set (o + k) ((r + b + c) % 18446744073709551616)) bs o (k + 1) ((r + b + c) / 18446744073709551616) := by
  obtain ⟨h1, h2, h3, h4⟩ := h
  have hr64 : r < 18446744073709551616 := by rw [hr]; exact h2 _
  refine ⟨by simpa using h1, wDig_set h2 hk (Nat.mod_lt _ (by omega)), by omega, ?_⟩
  have hs := wval_set zs (o + k) ((r + b + c) % 18446744073709551616) hk
  rw [← hr] at hs
  rw [wval_take_succ, ← hb, Nat.mul_add, ← Nat.mul_assoc, ← Nat.pow_add, ← Nat.add_assoc o k 1, Nat.pow_succ, Nat.mul_assoc]
  have e : 18446744073709551616 ^ (o + k) * ((r + b + c) % 18446744073709551616) + 18446744073709551616 ^ (o + k) * (18446744073709551616 * ((r + b + c) / 18446744073709551616)) = 18446744073709551616 ^ (o + k) * r + 18446744073709551616 ^ (o + k) * b + 18446744073709551616 ^ (o + k) * c := by
    rw [← Nat.mul_add, Nat.mod_add_div, Nat.mul_add, Nat.mul_add]
  omega
theorem wadd_room {z0 zs bs : List Nat} {o k c N : Nat} (h : WAddAt z0 zs bs o k c) (hk : bs.length ≤ k) (hc : 0 < c) (hr : wval z0 + 18446744073709551616 ^ o * wval bs < 18446744073709551616 ^ N) : o + k < N := by
  obtain ⟨_, _, h3, h4⟩ := h
  rw [wval_take_ge _ _ hk, show c = 1 from by omega, Nat.mul_one] at h4
  refine Nat.lt_of_not_le fun hle => ?_
  have := Nat.pow_le_pow_right (n := 18446744073709551616) (by omega) hle
  omega
theorem wadd_end {z0 zs bs : List Nat} {o k c : Nat} (h : WAddAt z0 zs bs o k c) (hk : bs.length ≤ k) (hc : c = 0) : wval zs = wval z0 + 18446744073709551616 ^ o * wval bs := by
  obtain ⟨_, _, _, h4⟩ := h
  rw [wval_take_ge _ _ hk, hc, Nat.mul_zero] at h4
  exact h4

/-- k words of bs are taken at o; c is borrowed. -/
def WSubAt (z0 zs bs : List Nat) (o k c : Nat) : Prop := zs.length = z0.length ∧ WDig zs ∧ c ≤ 1 ∧ wval zs + 18446744073709551616 ^ o * wval (bs.take k) = wval z0 + 18446744073709551616 ^ (o + k) * c
theorem wsub_start {z0 : List Nat} (h : WDig z0) (bs : List Nat) (o : Nat) : WSubAt z0 z0 bs o 0 0 := ⟨rfl, h, by omega, by simp [wval]⟩
theorem wsub_step {z0 zs bs : List Nat} {o k c r b : Nat} (h : WSubAt z0 zs bs o k c) (hk : o + k < zs.length) (hr : r = zs.getD (o + k) 0) (hb : b = bs.getD k 0) (hb64 : b < 18446744073709551616) :
    WSubAt z0 (zs.set (o + k) ((r + 18446744073709551616 - b - c) % 18446744073709551616)) bs o (k + 1) (if r < b + c then 1 else 0) := by
  obtain ⟨h1, h2, h3, h4⟩ := h
  have hr64 : r < 18446744073709551616 := by rw [hr]; exact h2 _
  refine ⟨by simpa using h1, wDig_set h2 hk (Nat.mod_lt _ (by omega)), by split <;> omega, ?_⟩
  have hs := wval_set zs (o + k) ((r + 18446744073709551616 - b - c) % 18446744073709551616) hk
  rw [← hr] at hs
  rw [wval_take_succ, ← hb, Nat.mul_add, ← Nat.mul_assoc, ← Nat.pow_add, ← Nat.add_assoc o k 1, Nat.pow_succ, Nat.mul_assoc]
  have hd : (r + 18446744073709551616 - b - c) % 18446744073709551616 + b + c = r + 18446744073709551616 * (if r < b + c then 1 else 0) := by split <;> omega
  have e : 18446744073709551616 ^ (o + k) * ((r + 18446744073709551616 - b - c) % 18446744073709551616) + 18446744073709551616 ^ (o + k) * b + 18446744073709551616 ^ (o + k) * c = 18446744073709551616 ^ (o + k) * r + 18446744073709551616 ^ (o + k) * (18446744073709551616 * (if r < b + c then 1 else 0)) := by
    rw [← Nat.mul_add, ← Nat.mul_add, hd, Nat.mul_add]
  omega
theorem wsub_end {z0 zs bs : List Nat} {o k : Nat} (h : WSubAt z0 zs bs o k 0) (hk : bs.length ≤ k) : wval zs + 18446744073709551616 ^ o * wval bs = wval z0 := by
  obtain ⟨_, _, _, h4⟩ := h
  rw [wval_take_ge _ _ hk, Nat.mul_zero] at h4
  exact h4
theorem wsub_less {z0 zs bs : List Nat} {o k : Nat} (h : WSubAt z0 zs bs o k 1) (hk : bs.length ≤ k) (hN : z0.length ≤ o + k) : wval z0 < 18446744073709551616 ^ o * wval bs := by
  obtain ⟨h1, h2, _, h4⟩ := h
  rw [wval_take_ge _ _ hk, Nat.mul_one] at h4
  have := wval_lt_pow h2
  have := Nat.pow_le_pow_right (n := 18446744073709551616) (by omega) hN
  rw [h1] at *
  omega

theorem word_carry (c : Nat) (h : c ≤ 1) : (c = 0 ∧ c = 0) ∨ (c ≠ 0 ∧ c = 1) := by omega

set_option maxRecDepth 100000 in
set_option maxHeartbeats 3200000 in
theorem addTo_any (w : World) (g o n cap bb ob cb lb : Nat) (gb : Option Addr) (z0 bs : List Nat) (hz : z0.length = o + n) (hbl : bs.length = lb) (hlb : lb ≤ n) (hn : o + n ≤ 1099511627776)
    (hZ : Blk w g z0) (dz : WDig z0) (hB : Rep w gb bb ob cb bs) (db : WDig bs) (hne : 0 < bs.length → bb ≠ g) (hroom : wval z0 + 18446744073709551616 ^ o * wval bs < 18446744073709551616 ^ (o + n)) :
    Calls Tryd.prog 62 #[.slice (some ⟨g, o, none⟩) n cap, .slice gb lb cb] w fun e w' => e = .returned (.tuple #[]) ∧ ∃ zs, zs.length = o + n ∧ WDig zs ∧ Blk w' g zs ∧ wval zs = wval z0 + 18446744073709551616 ^ o * wval bs ∧ w.grownBy w' (some g) := by
  have HROOM := hide hroom
  have HNE := hide hne
  clear hroom hne
  go_enter Tryd.func62, Tryd.ntmps62
  go_wp2
  go_loopw [4, 10] (fun c i wr => ∃ (k cy : Nat) (zs : List Nat), k ≤ lb ∧ c = .int .u64 (cy : Int) ∧ i = .int .i64 (k : Int) ∧ cy ≤ 1 ∧ Blk wr g zs ∧ Hid (WAddAt z0 zs bs o k cy) ∧ Rep wr gb bb ob cb bs ∧ w.grownBy wr (some g))
    (fun _ i _ => lb - (intOf i).toNat)
  case atStart => exact ⟨0, 0, z0, Nat.zero_le _, rfl, rfl, by omega, hZ, wadd_start dz bs o, hB, grown_refl _ _⟩
  case round =>
    obtain ⟨k, cy, zs, hk, rfl, rfl, hcy, hBlk, hAt, hRb, hG⟩ := hrel
    have hzl : zs.length = o + n := by rw [hAt.out.1]; exact hz
    by_cases h1 : k < lb
    · obtain rfl := hRb.head (by omega)
      obtain ⟨b, hb⟩ : ∃ b : Nat, b = bs.getD k 0 := ⟨_, rfl⟩
      have hb64 : b < 18446744073709551616 := by rw [hb]; exact db k
      have cb : wr.cell? ⟨bb, ob + k, none⟩ = some (.int .u64 (b : Int)) := by rw [hb]; exact hRb.cell k (by omega)
      obtain ⟨r, hr⟩ : ∃ r : Nat, r = zs.getD (o + k) 0 := ⟨_, rfl⟩
      have cr : wr.cell? ⟨g, o + k, none⟩ = some (.int .u64 (r : Int)) := by rw [hr]; exact hBlk.cell (o + k) (by omega)
      have fr := hBlk.frozen (o + k)
      have H2 := hide (wadd_step hAt.out (by omega) hr hb hb64)
      have CA := hide (fun w => word_add r b cy cy w (word_carry cy hcy))
      have hc2 := (unhide H2).2.2.1
      generalize (r + b + cy) % 18446744073709551616 = d at *
      generalize (r + b + cy) / 18446744073709551616 = c2 at *
      clear hr hb
      go_wp2_with fail
      refine (unhide CA _).mono ?_
      rintro e w1 ⟨rfl, rfl⟩
      go_wp2
      exact ⟨⟨k + 1, c2, _, by omega, rfl, by go_num, hc2, hBlk.set (o + k) d, H2, hRb.but (grown_set _ _ _ _) (unhide HNE), grown_trans hG (grown_set _ _ _ _)⟩, by simp [intOf]; omega⟩
    · obtain rfl : k = lb := by omega
      go_wp2
      go_loopw [4, 7] (fun c i wi => ∃ (q cy : Nat) (zs : List Nat), k ≤ q ∧ q ≤ n ∧ c = .int .u64 (cy : Int) ∧ i = .int .i64 (q : Int) ∧ cy ≤ 1 ∧ Blk wi g zs ∧ Hid (WAddAt z0 zs bs o q cy) ∧ w.grownBy wi (some g))
        (fun _ i _ => n - (intOf i).toNat)
      case atStart => exact ⟨k, cy, zs, Nat.le_refl _, hlb, rfl, rfl, hcy, hBlk, hAt, hG⟩
      case round =>
        obtain ⟨q, cy, zs, hq1, hq2, rfl, rfl, hcy, hBlk, hAt, hG⟩ := hrel
        have hzl : zs.length = o + n := by rw [hAt.out.1]; exact hz
        by_cases h2 : cy = 0
        · subst h2
          have hv := wadd_end hAt.out (by omega) rfl
          have HV := hide hv
          have HD := hide hAt.out.2.1
          clear hv hAt
          go_wp2
          go_end0
          exact ⟨rfl, zs, hzl, unhide HD, hBlk, unhide HV, hG⟩
        · obtain rfl : cy = 1 := by omega
          have hqn := wadd_room hAt.out (by omega) (by omega) (unhide HROOM)
          obtain ⟨r, hr⟩ : ∃ r : Nat, r = zs.getD (o + q) 0 := ⟨_, rfl⟩
          have cr : wr.cell? ⟨g, o + q, none⟩ = some (.int .u64 (r : Int)) := by rw [hr]; exact hBlk.cell (o + q) (by omega)
          have fr := hBlk.frozen (o + q)
          have H2 := hide (wadd_step (b := 0) hAt.out (by omega) hr (by rw [getD_ge (by omega)]) (by omega))
          have CA := hide (fun w => word_add r 0 1 1 w (Or.inr ⟨by omega, rfl⟩))
          have hc2 := (unhide H2).2.2.1
          generalize (r + 0 + 1) % 18446744073709551616 = d at *
          generalize (r + 0 + 1) / 18446744073709551616 = c2 at *
          have hqn2 : q < n := by omega
          clear hr hqn
          go_wp2_with fail
          refine (unhide CA _).mono ?_
          rintro e w1 ⟨rfl, rfl⟩
          go_wp2
          exact ⟨⟨q + 1, c2, _, by omega, by omega, rfl, by go_num, hc2, hBlk.set (o + q) d, H2, grown_trans hG (grown_set _ _ _ _)⟩, by simp [intOf]; omega⟩

/-- What takeFrom leaves: the row, and whether there was too little. -/
def TakeDone (w : World) (g o n : Nat) (z0 bs : List Nat) (e : Ending) (w' : World) : Prop := ∃ (c : Nat) (zs : List Nat), e = .returned (.int .u64 (c : Int)) ∧ c ≤ 1 ∧ zs.length = o + n ∧ WDig zs ∧ Blk w' g zs ∧ w.grownBy w' (some g) ∧
  ((c = 0 ∧ wval zs + 18446744073709551616 ^ o * wval bs = wval z0) ∨ (c = 1 ∧ wval z0 < 18446744073709551616 ^ o * wval bs))
theorem take_mk {w w' : World} {g o n : Nat} {z0 bs : List Nat} (c : Nat) (zs : List Nat) (h1 : c ≤ 1) (h2 : zs.length = o + n) (h3 : WDig zs) (h4 : Blk w' g zs) (h5 : w.grownBy w' (some g)) (h6 : (c = 0 ∧ wval zs + 18446744073709551616 ^ o * wval bs = wval z0) ∨ (c = 1 ∧ wval z0 < 18446744073709551616 ^ o * wval bs)) :
    TakeDone w g o n z0 bs (.returned (.int .u64 (c : Int))) w' := ⟨c, zs, rfl, h1, h2, h3, h4, h5, h6⟩

end Go.Proofs.YtpifgkhgnilpdaaDoor

/- Norm, One, Add, Sub of limb. -/
namespace Go.Proofs.YtpifgkhgnilpdaaDoor
open Go.RowKit

/-- trim of a row that came in. -/
theorem trim_in {w : World} {v : Value} {n : Nat} (h : InW w v n) : ∃ ga b o cap us, Rep w ga b o cap us ∧ WCan us ∧ wval us = n ∧ us.length ≤ 1073741824 ∧ Calls Tryd.prog 63 #[v] w fun e w' => e = .returned (.slice ga us.length cap) ∧ w' = w := by
  obtain ⟨ga, b, o, cap, xs, rfl, hr, hd, hv, hl⟩ := h
  have hle := nlen_le xs xs.length
  exact ⟨ga, b, o, cap, nrm xs, hr.take _ hle, nrm_wcan hd, by rw [nrm_wval]; exact hv, by rw [nrm_length]; omega, trim_any w ga b o cap _ _ xs rfl (by omega) hr (nrm_length xs)⟩

theorem wval_pad (us : List Nat) (j : Nat) : wval (us ++ List.replicate j 0) = wval us := by rw [wval_append, (wzeros j).2, Nat.mul_zero, Nat.add_zero]
theorem wDig_pad {us : List Nat} (h : WDig us) (j : Nat) : WDig (us ++ List.replicate j 0) := wDig_append h (wzeros j).1
theorem add_room {us vs : List Nat} {N : Nat} (h1 : WDig us) (h2 : WDig vs) (hN : N = max us.length vs.length + 1) : wval us + wval vs < 18446744073709551616 ^ N := by
  have a := pow_up (wval_lt_pow h1) (q := N - 1) (by omega)
  have b := pow_up (wval_lt_pow h2) (q := N - 1) (by omega)
  have := pow_sum a b
  rwa [show N - 1 + 1 = N from by omega] at this

/-- trim of a row in a block of its own. -/
theorem trim_blk {B : Nat} {w : World} {g N : Nat} {zs : List Nat} (hl : zs.length = N) (hN : N ≤ 1099511627776) (hg : B ≤ g) (hk : Blk w g zs) (hd : WDig zs) :
    Calls Tryd.prog 63 #[.slice (some ⟨g, 0, none⟩) N N] w fun e w' => ∃ v, e = .returned v ∧ NewW B w v (wval zs) ∧ w' = w := by
  subst hl
  have hr := hk.rep 0 zs.length zs.length (by omega) (Nat.le_refl _)
  rw [List.drop_zero, List.take_length] at hr
  refine (trim_any w _ g 0 _ _ _ zs rfl hN hr rfl).mono ?_
  rintro e w' ⟨rfl, rfl⟩
  exact ⟨_, rfl, newW_blk hg hk hd hN, rfl⟩

/-- What Sub and SubMul leave. -/
def SubDone (w : World) (m n : Nat) (e : Ending) (w' : World) : Prop := Below w.heap.size w w' ∧ ((n ≤ m ∧ ∃ r, e = .returned (.tuple #[r, .bool true]) ∧ NewW w.heap.size w' r (m - n)) ∨ (m < n ∧ e = .returned (.tuple #[.slice none 0 0, .bool false])))
theorem sub_no_mk {w w' : World} {m n : Nat} (hb : Below w.heap.size w w') (h : m < n) : SubDone w m n (.returned (.tuple #[.slice none 0 0, .bool false])) w' := ⟨hb, Or.inr ⟨h, rfl⟩⟩
theorem sub_yes_mk {w w' : World} {m n : Nat} {r : Value} (hb : Below w.heap.size w w') (h : n ≤ m) (hr : NewW w.heap.size w' r (m - n)) : SubDone w m n (.returned (.tuple #[r, .bool true])) w' := ⟨hb, Or.inl ⟨h, r, rfl, hr⟩⟩

end Go.Proofs.YtpifgkhgnilpdaaDoor

/- Cmp of limb, and Compare of package cmp. -/
namespace Go.Proofs.YtpifgkhgnilpdaaDoor
open Go.RowKit

/-- A callee that draws nothing, met behind two regions that draw. -/
theorem quiet_two {P : Program} {f : FuncId} {args : Array Value} {w : World} {q n : Nat} {v : Value} (h : Calls P f args (w.drewN (q + n)) fun e w' => e = .returned v ∧ w' = w.drewN (q + n)) : Calls P f args (w.drewN (q + n)) fun e w'' => e = .returned v ∧ ∃ m, w'' = w.drewN (q + m) :=
  h.mono fun _ _ ⟨he, hm⟩ => ⟨he, n, hm⟩

theorem cmpN_of {m n a b : Nat} (h1 : a < b → m < n) (h2 : b < a → n < m) (h : a ≠ b) : cmpN a b = cmpN m n := by
  rcases Nat.lt_trichotomy a b with k | k | k
  · rw [cmpN_lt k, cmpN_lt (h1 k)]
  · exact absurd k h
  · rw [cmpN_gt k, cmpN_gt (h2 k)]

end Go.Proofs.YtpifgkhgnilpdaaDoor

/- Zero, within, farthest and Join of limb: parts, each so many words higher than the one ahead, are summed. -/
namespace Go.Proofs.YtpifgkhgnilpdaaDoor
open Go.RowKit

theorem wval_zero {us : List Nat} (h : WCan us) : us.length = 0 ↔ wval us = 0 := by
  constructor
  · intro e
    obtain rfl : us = [] := List.length_eq_zero_iff.1 e
    rfl
  · intro e
    have := wlen_le h (L := 0) (by rw [e]; decide)
    omega

/-- Len of a row that came in: as many words as its number has. -/
theorem len_in {w : World} {v : Value} {n : Nat} (h : InW w v n) : ∃ l, l ≤ 1073741824 ∧ (∀ us, WCan us → wval us = n → us.length = l) ∧ (l = 0 ↔ n = 0) ∧ Calls Tryd.prog 78 #[v] w fun e w' => e = .returned (.int .i64 (l : Int)) ∧ w' = w := by
  obtain ⟨ga, b, o, cap, xs, rfl, hr, hd, hv, hl⟩ := h
  have hc := nrm_wcan hd
  have hle := nlen_le xs xs.length
  refine ⟨nlen xs xs.length, by omega, fun us h1 h2 => ?_, ?_, len_any w ga b o cap _ xs rfl (by omega) hr⟩
  · rw [← nrm_length, wCan_unique h1 hc (by rw [nrm_wval, h2, hv])]
  · rw [← nrm_length, wval_zero hc, nrm_wval, hv]

set_option maxHeartbeats 400000 in
theorem zero_in {w : World} {v : Value} {n : Nat} (h : InW w v n) (b : Bool) (hb : b = decide (n = 0)) : Calls Tryd.prog 61 #[v] w fun e w' => e = .returned (.bool b) ∧ w' = w := by
  obtain ⟨l, h1, h2, h3, CL⟩ := len_in h
  have CL := hide CL
  have hq : ((l : Int) == 0) = b := by
    rw [hb]
    by_cases hn : n = 0
    · have : l = 0 := h3.2 hn
      subst this; simp [hn]
    · have : l ≠ 0 := fun e => hn (h3.1 e)
      simp [hn]; omega
  clear h h2 h3 hb
  go_enter Tryd.func61, Tryd.ntmps61
  go_wp2_with fail
  refine (unhide CL).mono ?_
  rintro e w' ⟨rfl, rfl⟩
  clear CL
  go_wp2
  go_ret
  exact ⟨rfl, rfl⟩

set_option maxHeartbeats 400000 in
theorem within_lim (z : Int) (most k : Nat) (w : World) (hk : (k : Int) = min (max z 0) (most : Int)) : Calls Tryd.prog 59 #[.int .i64 z, .int .i64 (most : Int)] w fun e w' => e = .returned (.int .i64 (k : Int)) ∧ w' = w := by
  have HK := hide hk
  clear hk
  go_enter Tryd.func59, Tryd.ntmps59
  go_wp2
  go_ret
  exact ⟨ret_int (unhide HK).symm, rfl⟩

/-- Parts: a row of rows in memory, each of which says a number. -/
structure Parts (w : World) (gp : Option Addr) (bp op : Nat) (vs : List Value) (ns : List Nat) : Prop where
  head : 0 < vs.length → gp = some ⟨bp, op, none⟩
  len : ns.length = vs.length
  cell : ∀ j, j < vs.length → w.cell? ⟨bp, op + j, none⟩ = some (vs.getD j undef)
  each : ∀ j, j < vs.length → InW w (vs.getD j undef) (ns.getD j 0)

theorem Parts.lt {w : World} {gp : Option Addr} {bp op : Nat} {vs : List Value} {ns : List Nat} (h : Parts w gp bp op vs ns) (h0 : 0 < vs.length) : bp < w.heap.size := World.block_lt_of_cell? _ _ (h.cell 0 h0)
theorem Parts.next {w w' : World} {gp : Option Addr} {bp op : Nat} {vs : List Value} {ns : List Nat} (h : Parts w gp bp op vs ns) (hb : Below w.heap.size w w') : Parts w' gp bp op vs ns :=
  ⟨h.head, h.len, fun j hj => (hb.cell (by exact h.lt (by omega))).trans (h.cell j hj), fun j hj => (h.each j hj).next hb⟩

/-- The sum of the first i parts, the j-th times B to the k j. -/
def jsum (k : Nat) (ns : List Nat) : Nat → Nat
  | 0 => 0
  | i + 1 => jsum k ns i + 18446744073709551616 ^ (k * i) * ns.getD i 0

/-- E is not nearer than the end of any part. -/
def Far (k : Nat) (ns : List Nat) (i E : Nat) : Prop := ∀ j, j < i → ns.getD j 0 ≠ 0 → ∀ us, WCan us → wval us = ns.getD j 0 → k * j + us.length ≤ E

theorem far_zero {k : Nat} {ns : List Nat} {i E : Nat} (h : Far k ns i E) (hz : ns.getD i 0 = 0) : Far k ns (i + 1) E := fun j hj hn us h1 h2 => by
  by_cases e : j = i
  · subst e; exact absurd hz hn
  · exact h j (by omega) hn us h1 h2
theorem far_more {k : Nat} {ns : List Nat} {i E l E' : Nat} (h : Far k ns i E) (hl : ∀ us, WCan us → wval us = ns.getD i 0 → us.length = l) (h1 : E ≤ E') (h2 : k * i + l ≤ E') : Far k ns (i + 1) E' := fun j hj hn us c1 c2 => by
  by_cases e : j = i
  · subst e; have := hl us c1 c2; omega
  · have := h j (by omega) hn us c1 c2; omega

theorem jsum_lt {k : Nat} {ns : List Nat} {i E : Nat} (hF : Far k ns i E) (hW : ∀ j, j < i → ∃ us, WCan us ∧ wval us = ns.getD j 0) : ∀ j, j ≤ i → jsum k ns j ≤ j * (18446744073709551616 ^ E - 1)
  | 0 => fun _ => by simp [jsum]
  | j + 1 => fun hj => by
    have ih := jsum_lt hF hW j (by omega)
    have ht : 18446744073709551616 ^ (k * j) * ns.getD j 0 ≤ 18446744073709551616 ^ E - 1 := by
      by_cases hn : ns.getD j 0 = 0
      · rw [hn]; simp
      · obtain ⟨us, h1, h2⟩ := hW j (by omega)
        have h3 := hF j (by omega) hn us h1 h2
        have h4 := wval_lt_pow h1.1
        rw [h2] at h4
        have h5 : 18446744073709551616 ^ (k * j) * (ns.getD j 0 + 1) ≤ 18446744073709551616 ^ (k * j) * 18446744073709551616 ^ us.length := Nat.mul_le_mul_left _ h4
        rw [← Nat.pow_add] at h5
        have h6 : 18446744073709551616 ^ (k * j + us.length) ≤ 18446744073709551616 ^ E := Nat.pow_le_pow_right (by omega) h3
        have h7 := wpow_pos (k * j)
        rw [Nat.mul_add, Nat.mul_one] at h5
        omega
    rw [jsum, Nat.add_mul, Nat.one_mul]
    omega
theorem jsum_room {k : Nat} {ns : List Nat} {i E : Nat} (hF : Far k ns i E) (hW : ∀ j, j < i → ∃ us, WCan us ∧ wval us = ns.getD j 0) (hi : i ≤ 65536) : ∀ j, j ≤ i → jsum k ns j < 18446744073709551616 ^ (E + 1) := fun j hj => by
  have h1 := jsum_lt hF hW j hj
  have h2 : j * (18446744073709551616 ^ E - 1) ≤ 65536 * (18446744073709551616 ^ E - 1) := Nat.mul_le_mul_right _ (by omega)
  have h3 := wpow_pos E
  rw [Nat.pow_succ]
  omega

theorem in_words {w : World} {v : Value} {n : Nat} (h : InW w v n) : ∃ us, WCan us ∧ wval us = n := by
  obtain ⟨ga, b, o, cap, xs, rfl, hr, hd, hv, hl⟩ := h
  exact ⟨nrm xs, nrm_wcan hd, by rw [nrm_wval]; exact hv⟩

set_option maxRecDepth 100000 in
set_option maxHeartbeats 3200000 in
theorem farthest_any (w : World) (gp : Option Addr) (bp op cp np k : Nat) (vs : List Value) (ns : List Nat) (hvl : vs.length = np) (hnp : np ≤ 65536) (hk : k ≤ 16384) (hP : Parts w gp bp op vs ns) :
    Calls Tryd.prog 60 #[.int .i64 (k : Int), .slice gp np cp] w fun e w' => ∃ E : Nat, e = .returned (.int .i64 (E : Int)) ∧ E ≤ 4294967296 ∧ Far k ns np E ∧ w' = w := by
  go_enter Tryd.func60, Tryd.ntmps60
  go_wp2
  go_loop [5, 10] (fun e i => ∃ (q E : Nat), q ≤ np ∧ e = .int .i64 (E : Int) ∧ i = .int .i64 (q : Int) ∧ E ≤ 4294967296 ∧ Hid (Far k ns q E)) (fun _ i => np - (intOf i).toNat)
  case atStart => exact ⟨0, 0, Nat.zero_le _, rfl, rfl, by omega, fun j hj => absurd hj (by omega)⟩
  case round =>
    obtain ⟨q, E, hq, rfl, rfl, hE, hF⟩ := hrel
    by_cases h1 : q < np
    · obtain rfl := hP.head (by omega)
      have cv := hP.cell q (by omega)
      have hin := hP.each q (by omega)
      obtain ⟨v, hv⟩ : ∃ v, v = vs.getD q undef := ⟨_, rfl⟩
      obtain ⟨n, hn⟩ : ∃ n, n = ns.getD q 0 := ⟨_, rfl⟩
      rw [← hv] at cv hin
      rw [← hn] at hin
      obtain ⟨l, hl, hl2, hl3, CL⟩ := len_in hin
      have CL := hide CL
      by_cases h0 : n = 0
      · have CZ := hide (zero_in hin true (by simp [h0]))
        have H2 := hide (far_zero hF.out (by rw [← hn]; exact h0))
        clear hv hn hin hl2 hl3 h0
        go_wp2_with fail
        refine (unhide CZ).mono ?_
        rintro e w' ⟨rfl, rfl⟩
        clear CZ CL
        go_wp2
        exact ⟨⟨q + 1, E, by omega, rfl, by go_num, hE, H2⟩, by simp [intOf]; omega⟩
      · have CZ := hide (zero_in hin false (by simp [h0]))
        obtain ⟨p, hp⟩ : ∃ p, p = k * q := ⟨_, rfl⟩
        have hpb : p ≤ 1073741824 := by rw [hp]; exact Nat.mul_le_mul (m₂ := 65536) hk (by omega)
        have hpi : (k : Int) * (q : Int) = (p : Int) := by rw [hp]; exact (Int.natCast_mul k q).symm
        have HP := hide hp
        have H2 := hide (far_more (E' := max E (p + l)) hF.out (by rw [← hn]; exact hl2) (by omega) (by omega))
        clear hv hn hin hl2 hl3 h0 hp
        go_wp2_with fail
        refine (unhide CZ).mono ?_
        rintro e w' ⟨rfl, rfl⟩
        clear CZ
        go_wp2_with fail
        refine (unhide CL).mono ?_
        rintro e w' ⟨rfl, rfl⟩
        clear CL
        go_wp2
        exact ⟨⟨q + 1, max E (p + l), by omega, congrArg (Value.int .i64) (by omega), by go_num, by omega, H2⟩, by simp [intOf]; omega⟩
    · obtain rfl : q = np := by omega
      go_wp2
      go_ret
      exact ⟨E, rfl, hE, hF.out, rfl⟩

end Go.Proofs.YtpifgkhgnilpdaaDoor
