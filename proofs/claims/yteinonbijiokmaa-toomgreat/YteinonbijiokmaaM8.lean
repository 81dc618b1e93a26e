/- addTo and takeFrom of limb: a row is added to a piece of another, or taken from it. -/
import Derived.Test.YteinonbijiokmaaM6
import Derived.Test.YteinonbijiokmaaM7
import Derived.Deep.QuietTactic
import Derived.BigQuiet
import Derived.WalkSmall
namespace Go.Proofs.Yteinonbijiokmaa
open Go.RowKit

/-- k words of bs are added at o; c is carried. -/
def WAddAt (z0 zs bs : List Nat) (o k c : Nat) : Prop := zs.length = z0.length ∧ WDig zs ∧ c ≤ 1 ∧ wval zs + 18446744073709551616 ^ (o + k) * c = wval z0 + 18446744073709551616 ^ o * wval (bs.take k)
theorem wadd_start {z0 : List Nat} (h : WDig z0) (bs : List Nat) (o : Nat) : WAddAt z0 z0 bs o 0 0 := ⟨rfl, h, by omega, by simp [wval]⟩
theorem wadd_step {z0 zs bs : List Nat} {o k c r b : Nat} (h : WAddAt z0 zs bs o k c) (hk : o + k < zs.length) (hr : r = zs.getD (o + k) 0) (hb : b = bs.getD k 0) (hb64 : b < 18446744073709551616) :
    WAddAt z0 (zs.set (o + k) ((r + b + c) % 18446744073709551616)) bs o (k + 1) ((r + b + c) / 18446744073709551616) := by
  obtain ⟨h1, h2, h3, h4⟩ := h
  have hr64 : r < 18446744073709551616 := by rw [hr]; exact h2 _
  refine ⟨by simpa using h1, wDig_set h2 hk (Nat.mod_lt _ (by omega)), by omega, ?_⟩
  have hs := wval_set zs (o + k) ((r + b + c) % 18446744073709551616) hk
  rw [← hr] at hs
  rw [wval_take_succ, ← hb, Nat.mul_add, ← Nat.mul_assoc, ← Nat.pow_add, ← Nat.add_assoc o k 1, Nat.pow_succ, Nat.mul_assoc]
  have e : 18446744073709551616 ^ (o + k) * ((r + b + c) % 18446744073709551616) + 18446744073709551616 ^ (o + k) * (18446744073709551616 * ((r + b + c) / 18446744073709551616)) = 18446744073709551616 ^ (o + k) * r + 18446744073709551616 ^ (o + k) * b + 18446744073709551616 ^ (o + k) * c := by
    rw [← Nat.mul_add, Nat.mod_add_div, Nat.mul_add, Nat.mul_add]
  omega
theorem wadd_room {z0 zs bs : List Nat} {o k c N : Nat} (h : WAddAt z0 zs bs o k c) (hk : bs.length ≤ k) (hc : 0 < c) (hr : wval z0 + 18446744073709551616 ^ o * wval bs < 18446744073709551616 ^ N) : o + k < N := by
  obtain ⟨_, _, h3, h4⟩ := h
  rw [wval_take_ge _ _ hk, show c = 1 from by omega, Nat.mul_one] at h4
  refine Nat.lt_of_not_le fun hle => ?_
  have := Nat.pow_le_pow_right (n := 18446744073709551616) (by omega) hle
  omega
theorem wadd_end {z0 zs bs : List Nat} {o k c : Nat} (h : WAddAt z0 zs bs o k c) (hk : bs.length ≤ k) (hc : c = 0) : wval zs = wval z0 + 18446744073709551616 ^ o * wval bs := by
  obtain ⟨_, _, _, h4⟩ := h
  rw [wval_take_ge _ _ hk, hc, Nat.mul_zero] at h4
  exact h4

/-- k words of bs are taken at o; c is borrowed. -/
def WSubAt (z0 zs bs : List Nat) (o k c : Nat) : Prop := zs.length = z0.length ∧ WDig zs ∧ c ≤ 1 ∧ wval zs + 18446744073709551616 ^ o * wval (bs.take k) = wval z0 + 18446744073709551616 ^ (o + k) * c
theorem wsub_start {z0 : List Nat} (h : WDig z0) (bs : List Nat) (o : Nat) : WSubAt z0 z0 bs o 0 0 := ⟨rfl, h, by omega, by simp [wval]⟩
theorem wsub_step {z0 zs bs : List Nat} {o k c r b : Nat} (h : WSubAt z0 zs bs o k c) (hk : o + k < zs.length) (hr : r = zs.getD (o + k) 0) (hb : b = bs.getD k 0) (hb64 : b < 18446744073709551616) :
    WSubAt z0 (zs.set (o + k) ((r + 18446744073709551616 - b - c) % 18446744073709551616)) bs o (k + 1) (if r < b + c then 1 else 0) := by
  obtain ⟨h1, h2, h3, h4⟩ := h
  have hr64 : r < 18446744073709551616 := by rw [hr]; exact h2 _
  refine ⟨by simpa using h1, wDig_set h2 hk (Nat.mod_lt _ (by omega)), by split <;> omega, ?_⟩
  have hs := wval_set zs (o + k) ((r + 18446744073709551616 - b - c) % 18446744073709551616) hk
  rw [← hr] at hs
  rw [wval_take_succ, ← hb, Nat.mul_add, ← Nat.mul_assoc, ← Nat.pow_add, ← Nat.add_assoc o k 1, Nat.pow_succ, Nat.mul_assoc]
  have hd : (r + 18446744073709551616 - b - c) % 18446744073709551616 + b + c = r + 18446744073709551616 * (if r < b + c then 1 else 0) := by split <;> omega
  have e : 18446744073709551616 ^ (o + k) * ((r + 18446744073709551616 - b - c) % 18446744073709551616) + 18446744073709551616 ^ (o + k) * b + 18446744073709551616 ^ (o + k) * c = 18446744073709551616 ^ (o + k) * r + 18446744073709551616 ^ (o + k) * (18446744073709551616 * (if r < b + c then 1 else 0)) := by
    rw [← Nat.mul_add, ← Nat.mul_add, hd, Nat.mul_add]
  omega
theorem wsub_end {z0 zs bs : List Nat} {o k : Nat} (h : WSubAt z0 zs bs o k 0) (hk : bs.length ≤ k) : wval zs + 18446744073709551616 ^ o * wval bs = wval z0 := by
  obtain ⟨_, _, _, h4⟩ := h
  rw [wval_take_ge _ _ hk, Nat.mul_zero] at h4
  exact h4
theorem wsub_less {z0 zs bs : List Nat} {o k : Nat} (h : WSubAt z0 zs bs o k 1) (hk : bs.length ≤ k) (hN : z0.length ≤ o + k) : wval z0 < 18446744073709551616 ^ o * wval bs := by
  obtain ⟨h1, h2, _, h4⟩ := h
  rw [wval_take_ge _ _ hk, Nat.mul_one] at h4
  have := wval_lt_pow h2
  have := Nat.pow_le_pow_right (n := 18446744073709551616) (by omega) hN
  rw [h1] at *
  omega

theorem word_carry (c : Nat) (h : c ≤ 1) : (c = 0 ∧ c = 0) ∨ (c ≠ 0 ∧ c = 1) := by omega

set_option maxRecDepth 100000 in
set_option maxHeartbeats 3200000 in
theorem addTo_any (w : World) (g o n cap bb ob cb lb : Nat) (gb : Option Addr) (z0 bs : List Nat) (hz : z0.length = o + n) (hbl : bs.length = lb) (hlb : lb ≤ n) (hn : o + n ≤ 1099511627776)
    (hZ : Blk w g z0) (dz : WDig z0) (hB : Rep w gb bb ob cb bs) (db : WDig bs) (hne : 0 < bs.length → bb ≠ g) (hroom : wval z0 + 18446744073709551616 ^ o * wval bs < 18446744073709551616 ^ (o + n)) :
    Calls Try.prog 75 #[.slice (some ⟨g, o, none⟩) n cap, .slice gb lb cb] w fun e w' => e = .returned (.tuple #[]) ∧ ∃ zs, zs.length = o + n ∧ WDig zs ∧ Blk w' g zs ∧ wval zs = wval z0 + 18446744073709551616 ^ o * wval bs ∧ w.grownBy w' (some g) := by
  have HROOM := hide hroom
  have HNE := hide hne
  clear hroom hne
  go_enter Try.func75, Try.ntmps75
  go_wp2
  go_loopw [4, 10] (fun c i wr => ∃ (k cy : Nat) (zs : List Nat), k ≤ lb ∧ c = .int .u64 (cy : Int) ∧ i = .int .i64 (k : Int) ∧ cy ≤ 1 ∧ Blk wr g zs ∧ Hid (WAddAt z0 zs bs o k cy) ∧ Rep wr gb bb ob cb bs ∧ w.grownBy wr (some g))
    (fun _ i _ => lb - (intOf i).toNat)
  case atStart => exact ⟨0, 0, z0, Nat.zero_le _, rfl, rfl, by omega, hZ, wadd_start dz bs o, hB, grown_refl _ _⟩
  case round =>
    obtain ⟨k, cy, zs, hk, rfl, rfl, hcy, hBlk, hAt, hRb, hG⟩ := hrel
    have hzl : zs.length = o + n := by rw [hAt.out.1]; exact hz
    by_cases h1 : k < lb
    · obtain rfl := hRb.head (by omega)
      obtain ⟨b, hb⟩ : ∃ b : Nat, b = bs.getD k 0 := ⟨_, rfl⟩
      have hb64 : b < 18446744073709551616 := by rw [hb]; exact db k
      have cb : wr.cell? ⟨bb, ob + k, none⟩ = some (.int .u64 (b : Int)) := by rw [hb]; exact hRb.cell k (by omega)
      obtain ⟨r, hr⟩ : ∃ r : Nat, r = zs.getD (o + k) 0 := ⟨_, rfl⟩
      have cr : wr.cell? ⟨g, o + k, none⟩ = some (.int .u64 (r : Int)) := by rw [hr]; exact hBlk.cell (o + k) (by omega)
      have fr := hBlk.frozen (o + k)
      have H2 := hide (wadd_step hAt.out (by omega) hr hb hb64)
      have CA := hide (fun w => word_add r b cy cy w (word_carry cy hcy))
      have hc2 := (unhide H2).2.2.1
      generalize (r + b + cy) % 18446744073709551616 = d at *
      generalize (r + b + cy) / 18446744073709551616 = c2 at *
      clear hr hb
      go_wp2_with fail
      refine (unhide CA _).mono ?_
      rintro e w1 ⟨rfl, rfl⟩
      go_wp2
      exact ⟨⟨k + 1, c2, _, by omega, rfl, by go_num, hc2, hBlk.set (o + k) d, H2, hRb.but (grown_set _ _ _ _) (unhide HNE), grown_trans hG (grown_set _ _ _ _)⟩, by simp [intOf]; omega⟩
    · obtain rfl : k = lb := by omega
      go_wp2
      go_loopw [4, 7] (fun c i wi => ∃ (q cy : Nat) (zs : List Nat), k ≤ q ∧ q ≤ n ∧ c = .int .u64 (cy : Int) ∧ i = .int .i64 (q : Int) ∧ cy ≤ 1 ∧ Blk wi g zs ∧ Hid (WAddAt z0 zs bs o q cy) ∧ w.grownBy wi (some g))
        (fun _ i _ => n - (intOf i).toNat)
      case atStart => exact ⟨k, cy, zs, Nat.le_refl _, hlb, rfl, rfl, hcy, hBlk, hAt, hG⟩
      case round =>
        obtain ⟨q, cy, zs, hq1, hq2, rfl, rfl, hcy, hBlk, hAt, hG⟩ := hrel
        have hzl : zs.length = o + n := by rw [hAt.out.1]; exact hz
        by_cases h2 : cy = 0
        · subst h2
          have hv := wadd_end hAt.out (by omega) rfl
          have HV := hide hv
          have HD := hide hAt.out.2.1
          clear hv hAt
          go_wp2
          go_end0
          exact ⟨rfl, zs, hzl, unhide HD, hBlk, unhide HV, hG⟩
        · obtain rfl : cy = 1 := by omega
          have hqn := wadd_room hAt.out (by omega) (by omega) (unhide HROOM)
          obtain ⟨r, hr⟩ : ∃ r : Nat, r = zs.getD (o + q) 0 := ⟨_, rfl⟩
          have cr : wr.cell? ⟨g, o + q, none⟩ = some (.int .u64 (r : Int)) := by rw [hr]; exact hBlk.cell (o + q) (by omega)
          have fr := hBlk.frozen (o + q)
          have H2 := hide (wadd_step (b := 0) hAt.out (by omega) hr (by rw [getD_ge (by omega)]) (by omega))
          have CA := hide (fun w => word_add r 0 1 1 w (Or.inr ⟨by omega, rfl⟩))
          have hc2 := (unhide H2).2.2.1
          generalize (r + 0 + 1) % 18446744073709551616 = d at *
          generalize (r + 0 + 1) / 18446744073709551616 = c2 at *
          have hqn2 : q < n := by omega
          clear hr hqn
          go_wp2_with fail
          refine (unhide CA _).mono ?_
          rintro e w1 ⟨rfl, rfl⟩
          go_wp2
          exact ⟨⟨q + 1, c2, _, by omega, by omega, rfl, by go_num, hc2, hBlk.set (o + q) d, H2, grown_trans hG (grown_set _ _ _ _)⟩, by simp [intOf]; omega⟩

/-- What takeFrom leaves: the row, and whether there was too little. -/
def TakeDone (w : World) (g o n : Nat) (z0 bs : List Nat) (e : Ending) (w' : World) : Prop := ∃ (c : Nat) (zs : List Nat), e = .returned (.int .u64 (c : Int)) ∧ c ≤ 1 ∧ zs.length = o + n ∧ WDig zs ∧ Blk w' g zs ∧ w.grownBy w' (some g) ∧
  ((c = 0 ∧ wval zs + 18446744073709551616 ^ o * wval bs = wval z0) ∨ (c = 1 ∧ wval z0 < 18446744073709551616 ^ o * wval bs))
theorem take_mk {w w' : World} {g o n : Nat} {z0 bs : List Nat} (c : Nat) (zs : List Nat) (h1 : c ≤ 1) (h2 : zs.length = o + n) (h3 : WDig zs) (h4 : Blk w' g zs) (h5 : w.grownBy w' (some g)) (h6 : (c = 0 ∧ wval zs + 18446744073709551616 ^ o * wval bs = wval z0) ∨ (c = 1 ∧ wval z0 < 18446744073709551616 ^ o * wval bs)) :
    TakeDone w g o n z0 bs (.returned (.int .u64 (c : Int))) w' := ⟨c, zs, rfl, h1, h2, h3, h4, h5, h6⟩

set_option maxRecDepth 100000 in
set_option maxHeartbeats 3200000 in
theorem takeFrom_any (w : World) (g o n cap bb ob cb lb : Nat) (gb : Option Addr) (z0 bs : List Nat) (hz : z0.length = o + n) (hbl : bs.length = lb) (hlb : lb ≤ n) (hn : o + n ≤ 1099511627776)
    (hZ : Blk w g z0) (dz : WDig z0) (hB : Rep w gb bb ob cb bs) (db : WDig bs) (hne : 0 < bs.length → bb ≠ g) :
    Calls Try.prog 94 #[.slice (some ⟨g, o, none⟩) n cap, .slice gb lb cb] w (TakeDone w g o n z0 bs) := by
  have HNE := hide hne
  clear hne
  go_enter Try.func94, Try.ntmps94
  go_wp2
  go_loopw [4, 10] (fun c i wr => ∃ (k cy : Nat) (zs : List Nat), k ≤ lb ∧ c = .int .u64 (cy : Int) ∧ i = .int .i64 (k : Int) ∧ cy ≤ 1 ∧ Blk wr g zs ∧ Hid (WSubAt z0 zs bs o k cy) ∧ Rep wr gb bb ob cb bs ∧ w.grownBy wr (some g))
    (fun _ i _ => lb - (intOf i).toNat)
  case atStart => exact ⟨0, 0, z0, Nat.zero_le _, rfl, rfl, by omega, hZ, wsub_start dz bs o, hB, grown_refl _ _⟩
  case round =>
    obtain ⟨k, cy, zs, hk, rfl, rfl, hcy, hBlk, hAt, hRb, hG⟩ := hrel
    have hzl : zs.length = o + n := by rw [hAt.out.1]; exact hz
    by_cases h1 : k < lb
    · obtain rfl := hRb.head (by omega)
      obtain ⟨b, hb⟩ : ∃ b : Nat, b = bs.getD k 0 := ⟨_, rfl⟩
      have hb64 : b < 18446744073709551616 := by rw [hb]; exact db k
      have cb : wr.cell? ⟨bb, ob + k, none⟩ = some (.int .u64 (b : Int)) := by rw [hb]; exact hRb.cell k (by omega)
      obtain ⟨r, hr⟩ : ∃ r : Nat, r = zs.getD (o + k) 0 := ⟨_, rfl⟩
      have cr : wr.cell? ⟨g, o + k, none⟩ = some (.int .u64 (r : Int)) := by rw [hr]; exact hBlk.cell (o + k) (by omega)
      have fr := hBlk.frozen (o + k)
      have H2 := hide (wsub_step hAt.out (by omega) hr hb hb64)
      have CA := hide (fun w => word_sub r b cy cy w (word_carry cy hcy))
      have hc2 := (unhide H2).2.2.1
      generalize (r + 18446744073709551616 - b - cy) % 18446744073709551616 = d at *
      generalize (if r < b + cy then 1 else 0) = c2 at *
      clear hr hb
      go_wp2_with fail
      refine (unhide CA _).mono ?_
      rintro e w1 ⟨rfl, rfl⟩
      go_wp2
      exact ⟨⟨k + 1, c2, _, by omega, rfl, by go_num, hc2, hBlk.set (o + k) d, H2, hRb.but (grown_set _ _ _ _) (unhide HNE), grown_trans hG (grown_set _ _ _ _)⟩, by simp [intOf]; omega⟩
    · obtain rfl : k = lb := by omega
      go_wp2
      go_loopw [4, 7] (fun c i wi => ∃ (q cy : Nat) (zs : List Nat), k ≤ q ∧ q ≤ n ∧ c = .int .u64 (cy : Int) ∧ i = .int .i64 (q : Int) ∧ cy ≤ 1 ∧ Blk wi g zs ∧ Hid (WSubAt z0 zs bs o q cy) ∧ w.grownBy wi (some g))
        (fun _ i _ => n - (intOf i).toNat)
      case atStart => exact ⟨k, cy, zs, Nat.le_refl _, hlb, rfl, rfl, hcy, hBlk, hAt, hG⟩
      case round =>
        obtain ⟨q, cy, zs, hq1, hq2, rfl, rfl, hcy, hBlk, hAt, hG⟩ := hrel
        have hzl : zs.length = o + n := by rw [hAt.out.1]; exact hz
        by_cases h2 : cy = 0
        · subst h2
          have hv := wsub_end hAt.out (by omega)
          have HV := hide hv
          have HD := hide hAt.out.2.1
          clear hv hAt
          by_cases h3 : q < n
          · go_wp2
            go_ret
            exact take_mk 0 zs (by omega) hzl (unhide HD) hBlk hG (Or.inl ⟨rfl, unhide HV⟩)
          · go_wp2
            go_ret
            exact take_mk 0 zs (by omega) hzl (unhide HD) hBlk hG (Or.inl ⟨rfl, unhide HV⟩)
        · obtain rfl : cy = 1 := by omega
          by_cases h3 : q < n
          · obtain ⟨r, hr⟩ : ∃ r : Nat, r = zs.getD (o + q) 0 := ⟨_, rfl⟩
            have cr : wr.cell? ⟨g, o + q, none⟩ = some (.int .u64 (r : Int)) := by rw [hr]; exact hBlk.cell (o + q) (by omega)
            have fr := hBlk.frozen (o + q)
            have H2 := hide (wsub_step (b := 0) hAt.out (by omega) hr (by rw [getD_ge (by omega)]) (by omega))
            have CA := hide (fun w => word_sub r 0 1 1 w (Or.inr ⟨by omega, rfl⟩))
            have hc2 := (unhide H2).2.2.1
            generalize (r + 18446744073709551616 - 0 - 1) % 18446744073709551616 = d at *
            generalize (if r < 0 + 1 then 1 else 0) = c2 at *
            clear hr
            go_wp2_with fail
            refine (unhide CA _).mono ?_
            rintro e w1 ⟨rfl, rfl⟩
            go_wp2
            exact ⟨⟨q + 1, c2, _, by omega, by omega, rfl, by go_num, hc2, hBlk.set (o + q) d, H2, grown_trans hG (grown_set _ _ _ _)⟩, by simp [intOf]; omega⟩
          · have hv := wsub_less hAt.out (by omega) (by omega)
            have HV := hide hv
            have HD := hide hAt.out.2.1
            clear hv hAt
            go_wp2
            go_ret
            exact take_mk 1 zs (by omega) hzl (unhide HD) hBlk hG (Or.inr ⟨rfl, unhide HV⟩)

end Go.Proofs.Yteinonbijiokmaa

/- Norm, One, Add, Sub of limb. -/
namespace Go.Proofs.Yteinonbijiokmaa
open Go.RowKit

/-- trim of a row that came in. -/
theorem trim_in {w : World} {v : Value} {n : Nat} (h : InW w v n) : ∃ ga b o cap us, Rep w ga b o cap us ∧ WCan us ∧ wval us = n ∧ us.length ≤ 1073741824 ∧ Calls Try.prog 72 #[v] w fun e w' => e = .returned (.slice ga us.length cap) ∧ w' = w := by
  obtain ⟨ga, b, o, cap, xs, rfl, hr, hd, hv, hl⟩ := h
  have hle := nlen_le xs xs.length
  exact ⟨ga, b, o, cap, nrm xs, hr.take _ hle, nrm_wcan hd, by rw [nrm_wval]; exact hv, by rw [nrm_length]; omega, trim_any w ga b o cap _ _ xs rfl (by omega) hr (nrm_length xs)⟩

theorem wval_pad (us : List Nat) (j : Nat) : wval (us ++ List.replicate j 0) = wval us := by rw [wval_append, (wzeros j).2, Nat.mul_zero, Nat.add_zero]
theorem wDig_pad {us : List Nat} (h : WDig us) (j : Nat) : WDig (us ++ List.replicate j 0) := wDig_append h (wzeros j).1
theorem add_room {us vs : List Nat} {N : Nat} (h1 : WDig us) (h2 : WDig vs) (hN : N = max us.length vs.length + 1) : wval us + wval vs < 18446744073709551616 ^ N := by
  have a := pow_up (wval_lt_pow h1) (q := N - 1) (by omega)
  have b := pow_up (wval_lt_pow h2) (q := N - 1) (by omega)
  have := pow_sum a b
  rwa [show N - 1 + 1 = N from by omega] at this

/-- trim of a row in a block of its own. -/
theorem trim_blk {B : Nat} {w : World} {g N : Nat} {zs : List Nat} (hl : zs.length = N) (hN : N ≤ 1099511627776) (hg : B ≤ g) (hk : Blk w g zs) (hd : WDig zs) :
    Calls Try.prog 72 #[.slice (some ⟨g, 0, none⟩) N N] w fun e w' => ∃ v, e = .returned v ∧ NewW B w v (wval zs) ∧ w' = w := by
  subst hl
  have hr := hk.rep 0 zs.length zs.length (by omega) (Nat.le_refl _)
  rw [List.drop_zero, List.take_length] at hr
  refine (trim_any w _ g 0 _ _ _ zs rfl hN hr rfl).mono ?_
  rintro e w' ⟨rfl, rfl⟩
  exact ⟨_, rfl, newW_blk hg hk hd hN, rfl⟩

set_option maxRecDepth 100000 in
set_option maxHeartbeats 1600000 in
theorem add_w (w : World) (u v : Value) (m n : Nat) (hu : InW w u m) (hv : InW w v n) :
    Calls Try.prog 53 #[u, v] w fun e w' => ∃ r, e = .returned r ∧ NewW w.heap.size w' r (m + n) ∧ Below w.heap.size w w' := by
  obtain ⟨ga, ba, oa, ca, us, rA, cA, vA, lA, CA⟩ := trim_in hu
  obtain ⟨gb, bb, ob, cb, vs, rB, cB, vB, lB, CB⟩ := trim_in hv
  obtain ⟨N, hN⟩ : ∃ N, N = max us.length vs.length + 1 := ⟨_, rfl⟩
  have hroom := add_room cA.1 cB.1 hN
  have hbN : vs.length ≤ N := by omega
  have hNb : N ≤ 1073741825 := by omega
  have CA := hide CA
  have CB := hide CB
  have HN := hide hN
  have hzl : (us ++ List.replicate (N - us.length) 0).length = 0 + N := by simp; omega
  obtain ⟨la, hla⟩ : ∃ la, la = us.length := ⟨_, rfl⟩
  obtain ⟨lb, hlb⟩ : ∃ lb, lb = vs.length := ⟨_, rfl⟩
  rw [← hla] at CA lA HN hzl
  rw [← hlb] at CB lB HN hbN
  have HLA := hide hla
  have HLB := hide hlb
  have HR := hide hroom
  clear hu hv hN hroom hla hlb
  go_enter Try.func53, Try.ntmps53
  go_wp2_with fail
  refine (unhide CA).mono ?_
  rintro e w1 ⟨rfl, rfl⟩
  go_wp2_with fail
  refine (unhide CB).mono ?_
  rintro e w2 ⟨rfl, rfl⟩
  clear CA CB
  go_wp2_with fail
  refine (wider_any _ ga gb ba oa ca cb la lb N us (unhide HLA).symm (by omega) (by omega) rA (unhide HN)).mono ?_
  rintro e w3 ⟨rfl, k3, b3⟩
  go_wp2_with fail
  refine (addTo_any _ w2.heap.size 0 N N bb ob cb lb gb _ vs hzl (unhide HLB).symm hbN (by omega) k3 (wDig_pad cA.1 _) (rB.next b3) cB.1 (fun h => by have := rB.lt h; omega) (by rw [wval_pad, Nat.pow_zero, Nat.one_mul, Nat.zero_add]; exact unhide HR)).mono ?_
  rintro e w4 ⟨rfl, zs, hl, hd, k4, hv4, g4⟩
  rw [wval_pad, Nat.pow_zero, Nat.one_mul, vA, vB] at hv4
  have b4 := below_grown b3 g4 (Nat.le_refl _) b3.size
  have HV := hide hv4
  clear hv4 g4 k3
  go_wp2_with fail
  refine (trim_blk (B := w2.heap.size) (by omega) (by omega) (Nat.le_refl _) k4 hd).mono ?_
  rintro e w5 ⟨r, rfl, hr, rfl⟩
  rw [unhide HV] at hr
  go_wp2
  go_ret
  exact ⟨r, rfl, hr, b4⟩

/-- What Sub and SubMul leave. -/
def SubDone (w : World) (m n : Nat) (e : Ending) (w' : World) : Prop := Below w.heap.size w w' ∧ ((n ≤ m ∧ ∃ r, e = .returned (.tuple #[r, .bool true]) ∧ NewW w.heap.size w' r (m - n)) ∨ (m < n ∧ e = .returned (.tuple #[.slice none 0 0, .bool false])))
theorem sub_no_mk {w w' : World} {m n : Nat} (hb : Below w.heap.size w w') (h : m < n) : SubDone w m n (.returned (.tuple #[.slice none 0 0, .bool false])) w' := ⟨hb, Or.inr ⟨h, rfl⟩⟩
theorem sub_yes_mk {w w' : World} {m n : Nat} {r : Value} (hb : Below w.heap.size w w') (h : n ≤ m) (hr : NewW w.heap.size w' r (m - n)) : SubDone w m n (.returned (.tuple #[r, .bool true])) w' := ⟨hb, Or.inl ⟨h, r, rfl, hr⟩⟩

set_option maxRecDepth 100000 in
set_option maxHeartbeats 1600000 in
theorem sub_w (w : World) (u v : Value) (m n : Nat) (hu : InW w u m) (hv : InW w v n) :
    Calls Try.prog 76 #[u, v] w (SubDone w m n) := by
  obtain ⟨ga, ba, oa, ca, us, rA, cA, vA, lA, CA⟩ := trim_in hu
  obtain ⟨gb, bb, ob, cb, vs, rB, cB, vB, lB, CB⟩ := trim_in hv
  have hlt : us.length < vs.length → m < n := fun h => by have := wlen_lt cA.1 cB h; omega
  have CA := hide CA
  have CB := hide CB
  have HLT := hide hlt
  obtain ⟨la, hla⟩ : ∃ la, la = us.length := ⟨_, rfl⟩
  obtain ⟨lb, hlb⟩ : ∃ lb, lb = vs.length := ⟨_, rfl⟩
  rw [← hla] at CA lA HLT
  rw [← hlb] at CB lB HLT
  have HLA := hide hla
  have HLB := hide hlb
  clear hu hv hlt hla hlb
  go_enter Try.func76, Try.ntmps76
  go_wp2_with fail
  refine (unhide CA).mono ?_
  rintro e w1 ⟨rfl, rfl⟩
  go_wp2_with fail
  refine (unhide CB).mono ?_
  rintro e w2 ⟨rfl, rfl⟩
  clear CA CB
  by_cases h1 : la < lb
  · go_wp2
    go_ret2
    exact sub_no_mk (Below.refl _ _) (unhide HLT h1)
  · go_wp2_with fail
    refine (copyOf_any _ ga ba oa ca la us (unhide HLA).symm (by omega) rA).mono ?_
    rintro e w3 ⟨rfl, k3, b3⟩
    go_wp2_with fail
    refine (takeFrom_any _ w2.heap.size 0 la la bb ob cb lb gb us vs (by rw [← unhide HLA]; omega) (unhide HLB).symm (by omega) (by omega) k3 cA.1 (rB.next b3) cB.1 (fun h => by have := rB.lt h; omega)).mono ?_
    rintro e w4 ⟨c, zs, rfl, hc1, hl, hd, k4, g4, hres⟩
    rw [Nat.pow_zero, Nat.one_mul, vA, vB] at hres
    have b4 := below_grown b3 g4 (Nat.le_refl _) b3.size
    clear g4 k3
    rcases hres with ⟨rfl, hv4⟩ | ⟨rfl, hv4⟩
    · have HV := hide hv4
      clear hv4
      go_wp2_with fail
      refine (trim_blk (B := w2.heap.size) (by omega) (by omega) (Nat.le_refl _) k4 hd).mono ?_
      rintro e w5 ⟨r, rfl, hr, rfl⟩
      have hle : n ≤ m := by have := unhide HV; omega
      have he : wval zs = m - n := by have := unhide HV; omega
      rw [he] at hr
      clear he
      go_wp2
      go_ret2
      exact sub_yes_mk b4 hle hr
    · go_wp2
      go_ret2
      exact sub_no_mk b4 hv4

set_option maxRecDepth 100000 in
set_option maxHeartbeats 1600000 in
theorem norm_w (w : World) (u : Value) (m : Nat) (hu : InW w u m) :
    Calls Try.prog 70 #[u] w fun e w' => ∃ r, e = .returned r ∧ NewW w.heap.size w' r m ∧ Below w.heap.size w w' := by
  obtain ⟨ga, ba, oa, ca, us, rA, cA, vA, lA, CA⟩ := trim_in hu
  have CA := hide CA
  obtain ⟨la, hla⟩ : ∃ la, la = us.length := ⟨_, rfl⟩
  rw [← hla] at CA lA
  have HLA := hide hla
  clear hu hla
  go_enter Try.func70, Try.ntmps70
  go_wp2_with fail
  refine (unhide CA).mono ?_
  rintro e w1 ⟨rfl, rfl⟩
  clear CA
  go_wp2_with fail
  refine (copyOf_any _ ga ba oa ca la us (unhide HLA).symm (by omega) rA).mono ?_
  rintro e w3 ⟨rfl, k3, b3⟩
  go_wp2
  go_ret
  refine ⟨_, rfl, ⟨us, cA, vA, Or.inr ⟨w1.heap.size, [], Nat.le_refl _, ?_, by rw [List.append_nil]; exact k3, by rw [← unhide HLA]; simp; omega⟩⟩, b3⟩
  rw [List.append_nil, ← unhide HLA]
  rfl

end Go.Proofs.Yteinonbijiokmaa

/- Plain mathematics of products by hand. Nothing of any program here. -/
namespace Go.Proofs.Yteinonbijiokmaa

/-- k words of bs times y are added from place o on; c is carried; all other words are as they were. -/
def SAt (z0 zs bs : List Nat) (y o k c : Nat) : Prop :=
  zs.length = z0.length ∧ WDig zs ∧ c < 18446744073709551616 ∧ wval zs + 18446744073709551616 ^ (o + k) * c = wval z0 + 18446744073709551616 ^ o * (y * wval (bs.take k)) ∧
    ∀ j, o + k ≤ j → zs.getD j 0 = z0.getD j 0
theorem s_start {z0 : List Nat} (h : WDig z0) (bs : List Nat) (y o : Nat) : SAt z0 z0 bs y o 0 0 := ⟨rfl, h, by omega, by simp [wval], fun _ _ => rfl⟩

/-- The product of two words, with two words more, has room in two words. -/
theorem s_parts {b y c r h0 l0 l1 c1 h1 d c2 c3 : Nat} (hb : b < 18446744073709551616) (hy : y < 18446744073709551616) (hc : c < 18446744073709551616) (hr : r < 18446744073709551616)
    (e0 : h0 = b * y / 18446744073709551616) (e1 : l0 = b * y % 18446744073709551616) (e2 : l1 = (l0 + c + 0) % 18446744073709551616) (e3 : c1 = (l0 + c + 0) / 18446744073709551616) (e4 : h1 = h0 + c1)
    (e5 : d = (r + l1 + 0) % 18446744073709551616) (e6 : c2 = (r + l1 + 0) / 18446744073709551616) (e7 : c3 = h1 + c2) :
    h1 < 18446744073709551616 ∧ c3 < 18446744073709551616 ∧ d < 18446744073709551616 ∧ d + 18446744073709551616 * c3 = r + b * y + c := by
  have hp : b * y ≤ 18446744073709551615 * 18446744073709551615 := Nat.mul_le_mul (by omega) (by omega)
  generalize b * y = p at *
  omega

theorem s_step {z0 zs bs : List Nat} {y o k c r b d c3 : Nat} (h : SAt z0 zs bs y o k c) (hk : o + k < zs.length) (hr : r = zs.getD (o + k) 0) (hb : b = bs.getD k 0)
    (hd : d < 18446744073709551616) (hc3 : c3 < 18446744073709551616) (he : d + 18446744073709551616 * c3 = r + b * y + c) : SAt z0 (zs.set (o + k) d) bs y o (k + 1) c3 := by
  obtain ⟨h1, h2, h3, h4, h5⟩ := h
  refine ⟨by simpa using h1, wDig_set h2 hk hd, hc3, ?_, fun j hj => ?_⟩
  · have hs := wval_set zs (o + k) d hk
    rw [← hr] at hs
    rw [wval_take_succ, ← hb, Nat.mul_add y, Nat.mul_left_comm y, Nat.mul_add, ← Nat.mul_assoc (18446744073709551616 ^ o) (18446744073709551616 ^ k), ← Nat.pow_add, ← Nat.add_assoc o k 1, Nat.pow_succ, Nat.mul_assoc (18446744073709551616 ^ (o + k))]
    have e : 18446744073709551616 ^ (o + k) * d + 18446744073709551616 ^ (o + k) * (18446744073709551616 * c3) = 18446744073709551616 ^ (o + k) * r + 18446744073709551616 ^ (o + k) * (y * b) + 18446744073709551616 ^ (o + k) * c := by
      rw [← Nat.mul_add, he, Nat.mul_add, Nat.mul_add, Nat.mul_comm b y]
    omega
  · rw [← h5 j (by omega)]
    simp [List.getD_eq_getElem?_getD, show ¬ o + k = j by omega]

/-- The words from place k on are noughts. -/
def Nought (zs : List Nat) (k : Nat) : Prop := ∀ j, k ≤ j → zs.getD j 0 = 0
theorem nought_all (n k : Nat) : Nought (List.replicate n 0) k := fun j _ => by simp [List.getD_eq_getElem?_getD, List.getElem?_replicate]; split <;> rfl
theorem wval_noughts : ∀ n, wval (List.replicate n 0) = 0
  | 0 => rfl
  | n + 1 => by rw [List.replicate_succ, wval, wval_noughts n]
theorem wDig_noughts (n : Nat) : WDig (List.replicate n 0) := fun j => by rw [nought_all n 0 j (by omega)]; omega

/-- What is carried is laid on top of what was added. -/
theorem s_top {z0 zs bs : List Nat} {y o k c : Nat} (h : SAt z0 zs bs y o k c) (hk : bs.length ≤ k) (hz : Nought z0 (o + k)) (ho : o + k < zs.length) :
    (zs.set (o + k) c).length = z0.length ∧ WDig (zs.set (o + k) c) ∧ wval (zs.set (o + k) c) = wval z0 + 18446744073709551616 ^ o * (y * wval bs) ∧ Nought (zs.set (o + k) c) (o + k + 1) := by
  obtain ⟨h1, h2, h3, h4, h5⟩ := h
  refine ⟨by simpa using h1, wDig_set h2 ho h3, ?_, fun j hj => ?_⟩
  · have hs := wval_set zs (o + k) c ho
    rw [h5 _ (Nat.le_refl _), hz _ (Nat.le_refl _), Nat.mul_zero] at hs
    rw [wval_take_ge _ _ hk] at h4
    omega
  · have : (zs.set (o + k) c).getD j 0 = zs.getD j 0 := by simp [List.getD_eq_getElem?_getD, show ¬ o + k = j by omega]
    rw [this, h5 j (by omega), hz j (by omega)]

/-- k words of bs are multiplied by xs, and summed. -/
def MRow (xs bs zs : List Nat) (N k : Nat) : Prop := zs.length = N ∧ WDig zs ∧ wval zs = wval xs * wval (bs.take k) ∧ Nought zs (k + xs.length)
theorem m_start (xs bs : List Nat) (N : Nat) : MRow xs bs (List.replicate N 0) N 0 := ⟨by simp, wDig_noughts _, by rw [wval_noughts]; simp [wval], nought_all _ _⟩
theorem m_step {xs bs z0 zs : List Nat} {N k c y : Nat} (h : MRow xs bs z0 N k) (hs : SAt z0 zs xs y k xs.length c) (hy : y = bs.getD k 0) (hk : k + xs.length < N) : MRow xs bs (zs.set (k + xs.length) c) N (k + 1) := by
  obtain ⟨h1, h2, h3, h4⟩ := h
  obtain ⟨t1, t2, t3, t4⟩ := s_top hs (Nat.le_refl _) h4 (by rw [hs.1, h1]; exact hk)
  refine ⟨by rw [t1, h1], t2, ?_, fun j hj => t4 j (by omega)⟩
  rw [t3, h3, wval_take_succ, ← hy, Nat.mul_add, Nat.mul_left_comm (wval xs), Nat.mul_comm (wval xs) y]

/-- The sum of the products of each two words, as far as k words are done; the sum of the squares. -/
def crs (xs : List Nat) : Nat → Nat
  | 0 => 0
  | k + 1 => crs xs k + 18446744073709551616 ^ (2 * k + 1) * (xs.getD k 0 * wval (xs.drop (k + 1)))
def sqs (xs : List Nat) : Nat → Nat
  | 0 => 0
  | k + 1 => sqs xs k + 18446744073709551616 ^ (2 * k) * (xs.getD k 0 * xs.getD k 0)
theorem wval_drop_one (xs : List Nat) (k : Nat) : wval (xs.drop k) = xs.getD k 0 + 18446744073709551616 * wval (xs.drop (k + 1)) := by
  by_cases h : k < xs.length
  · rw [List.drop_eq_getElem_cons h, wval, getD_lt h]
  · rw [List.drop_eq_nil_of_le (by omega), List.drop_eq_nil_of_le (by omega), getD_ge (by omega)]; simp [wval]
theorem sq_step (p B x v : Nat) : p * ((x + B * v) * (x + B * v)) = p * (x * x) + p * B * (x * v) + p * B * (x * v) + p * B * B * (v * v) := by
  have e : (x + B * v) * (x + B * v) = x * x + B * (x * v) + B * (x * v) + B * B * (v * v) := by
    rw [Nat.mul_add, Nat.add_mul, Nat.add_mul, Nat.mul_comm (B * v) x, Nat.mul_left_comm x B v, Nat.mul_assoc B v, Nat.mul_left_comm v B v, ← Nat.mul_assoc B B]
    omega
  rw [e, Nat.mul_add, Nat.mul_add, Nat.mul_add, ← Nat.mul_assoc p B (x * v), ← Nat.mul_assoc p (B * B), ← Nat.mul_assoc p B B]
theorem sum_help (c s t1 t2 t3 : Nat) : c + t1 + (c + t1) + (s + t3) + t2 = c + c + s + (t3 + t1 + t1 + t2) := by omega
theorem square_sum (xs : List Nat) : ∀ k, crs xs k + crs xs k + sqs xs k + 18446744073709551616 ^ (2 * k) * (wval (xs.drop k) * wval (xs.drop k)) = wval xs * wval xs
  | 0 => by simp [crs, sqs]
  | k + 1 => by
    rw [← square_sum xs k, wval_drop_one xs k, crs, sqs, sq_step, show 2 * (k + 1) = 2 * k + 1 + 1 from by omega, Nat.pow_succ, Nat.pow_succ]
    exact sum_help _ _ _ _ _
theorem square_is (xs : List Nat) (n : Nat) (h : xs.length ≤ n) : crs xs n + crs xs n + sqs xs n = wval xs * wval xs := by
  have := square_sum xs n
  rw [List.drop_eq_nil_of_le h] at this
  simpa [wval] using this

/-- As far as k words are done: the products of each two. -/
def CRow (xs zs : List Nat) (n k : Nat) : Prop := zs.length = 2 * n ∧ WDig zs ∧ wval zs = crs xs k ∧ Nought zs (k + n)
theorem c_start (xs : List Nat) (n : Nat) : CRow xs (List.replicate (2 * n) 0) n 0 := ⟨by simp, wDig_noughts _, by rw [wval_noughts]; rfl, nought_all _ _⟩
theorem c_step {xs z0 zs : List Nat} {n k c y : Nat} (h : CRow xs z0 n k) (hs : SAt z0 zs (xs.drop (k + 1)) y (2 * k + 1) (n - (k + 1)) c) (hy : y = xs.getD k 0) (hl : xs.length = n) (hk : k < n) : CRow xs (zs.set (k + n) c) n (k + 1) := by
  obtain ⟨h1, h2, h3, h4⟩ := h
  have e : 2 * k + 1 + (n - (k + 1)) = k + n := by omega
  obtain ⟨t1, t2, t3, t4⟩ := s_top hs (by simp; omega) (by rw [e]; exact h4) (by rw [hs.1, h1]; omega)
  rw [e] at t1 t2 t3 t4
  refine ⟨by rw [t1, h1], t2, ?_, fun j hj => t4 j (by omega)⟩
  rw [t3, h3, crs, ← hy]

/-- As far as k words are done: their squares. -/
def QRow (xs zs : List Nat) (n k : Nat) : Prop := zs.length = 2 * n ∧ WDig zs ∧ wval zs = sqs xs k ∧ Nought zs (2 * k)
theorem q_start (xs : List Nat) (n : Nat) : QRow xs (List.replicate (2 * n) 0) n 0 := ⟨by simp, wDig_noughts _, by rw [wval_noughts]; rfl, nought_all _ _⟩
theorem q_step {xs zs : List Nat} {n k x hi lo : Nat} (h : QRow xs zs n k) (hx : x = xs.getD k 0) (hk : k < n) (hh : hi < 18446744073709551616) (hl : lo < 18446744073709551616) (he : 18446744073709551616 * hi + lo = x * x) :
    QRow xs ((zs.set (2 * k + 1) hi).set (2 * k) lo) n (k + 1) := by
  obtain ⟨h1, h2, h3, h4⟩ := h
  have d1 := wDig_set h2 (k := 2 * k + 1) (by omega) hh
  refine ⟨by simpa using h1, wDig_set d1 (by simp; omega) hl, ?_, fun j hj => ?_⟩
  · have s1 := wval_set zs (2 * k + 1) hi (by omega)
    rw [h4 _ (by omega), Nat.mul_zero] at s1
    have s2 := wval_set (zs.set (2 * k + 1) hi) (2 * k) lo (by simp; omega)
    have : (zs.set (2 * k + 1) hi).getD (2 * k) 0 = zs.getD (2 * k) 0 := by simp [List.getD_eq_getElem?_getD]
    rw [this, h4 _ (by omega), Nat.mul_zero] at s2
    rw [sqs, ← hx, ← he, Nat.mul_add, ← Nat.mul_assoc, ← Nat.pow_succ]
    show _ = _ + (18446744073709551616 ^ (2 * k + 1) * hi + _)
    omega
  · have : ((zs.set (2 * k + 1) hi).set (2 * k) lo).getD j 0 = zs.getD j 0 := by simp [List.getD_eq_getElem?_getD, show ¬ 2 * k + 1 = j by omega, show ¬ 2 * k = j by omega]
    rw [this, h4 j (by omega)]

end Go.Proofs.Yteinonbijiokmaa

/- addTimes of school: a row times a word is added to a piece of another. -/
namespace Go.Proofs.Yteinonbijiokmaa
open Go.RowKit

set_option maxRecDepth 100000 in
set_option maxHeartbeats 3200000 in
theorem addTimes_any (w : World) (g o n cap bb ob cb lb y : Nat) (gb : Option Addr) (z0 bs : List Nat) (hz : z0.length = o + n) (hbl : bs.length = lb) (hlb : lb ≤ n) (hn : o + n ≤ 1099511627776) (hy : y < 18446744073709551616)
    (hZ : Blk w g z0) (dz : WDig z0) (hB : Rep w gb bb ob cb bs) (db : WDig bs) (hne : 0 < bs.length → bb ≠ g) :
    Calls Try.prog 69 #[.slice (some ⟨g, o, none⟩) n cap, .slice gb lb cb, .int .u64 (y : Int)] w fun e w' => ∃ (c : Nat) (zs : List Nat), e = .returned (.int .u64 (c : Int)) ∧ SAt z0 zs bs y o lb c ∧ Blk w' g zs ∧ w.grownBy w' (some g) := by
  have HNE := hide hne
  clear hne
  go_enter Try.func69, Try.ntmps69
  go_wp2
  go_loopw [6, 14] (fun c i wr => ∃ (k cy : Nat) (zs : List Nat), k ≤ lb ∧ c = .int .u64 (cy : Int) ∧ i = .int .i64 (k : Int) ∧ cy < 18446744073709551616 ∧ Blk wr g zs ∧ Hid (SAt z0 zs bs y o k cy) ∧ Rep wr gb bb ob cb bs ∧ w.grownBy wr (some g))
    (fun _ i _ => lb - (intOf i).toNat)
  case atStart => exact ⟨0, 0, z0, Nat.zero_le _, rfl, rfl, by omega, hZ, s_start dz bs y o, hB, grown_refl _ _⟩
  case round =>
    obtain ⟨k, cy, zs, hk, rfl, rfl, hcy, hBlk, hAt, hRb, hG⟩ := hrel
    have hzl : zs.length = o + n := by rw [hAt.out.1]; exact hz
    by_cases h1 : k < lb
    · obtain rfl := hRb.head (by omega)
      obtain ⟨b, hb⟩ : ∃ b : Nat, b = bs.getD k 0 := ⟨_, rfl⟩
      have hb64 : b < 18446744073709551616 := by rw [hb]; exact db k
      have cb : wr.cell? ⟨bb, ob + k, none⟩ = some (.int .u64 (b : Int)) := by rw [hb]; exact hRb.cell k (by omega)
      obtain ⟨r, hr⟩ : ∃ r : Nat, r = zs.getD (o + k) 0 := ⟨_, rfl⟩
      have hr64 : r < 18446744073709551616 := by rw [hr]; exact hAt.out.2.1 _
      have cr : wr.cell? ⟨g, o + k, none⟩ = some (.int .u64 (r : Int)) := by rw [hr]; exact hBlk.cell (o + k) (by omega)
      have fr := hBlk.frozen (o + k)
      obtain ⟨h0, e0⟩ : ∃ h0, h0 = b * y / 18446744073709551616 := ⟨_, rfl⟩
      obtain ⟨l0, e1⟩ : ∃ l0, l0 = b * y % 18446744073709551616 := ⟨_, rfl⟩
      obtain ⟨l1, e2⟩ : ∃ l1, l1 = (l0 + cy + 0) % 18446744073709551616 := ⟨_, rfl⟩
      obtain ⟨c1, e3⟩ : ∃ c1, c1 = (l0 + cy + 0) / 18446744073709551616 := ⟨_, rfl⟩
      obtain ⟨h1', e4⟩ : ∃ h1', h1' = h0 + c1 := ⟨_, rfl⟩
      obtain ⟨d, e5⟩ : ∃ d, d = (r + l1 + 0) % 18446744073709551616 := ⟨_, rfl⟩
      obtain ⟨c2, e6⟩ : ∃ c2, c2 = (r + l1 + 0) / 18446744073709551616 := ⟨_, rfl⟩
      obtain ⟨c3, e7⟩ : ∃ c3, c3 = h1' + c2 := ⟨_, rfl⟩
      obtain ⟨q1, q2, q3, q4⟩ := s_parts hb64 hy hcy hr64 e0 e1 e2 e3 e4 e5 e6 e7
      have H2 := hide (s_step hAt.out (by omega) hr hb q3 q2 q4)
      have CM := hide (fun w => word_mul b y w hb64 hy)
      have CA := hide (fun w => word_add l0 cy 0 0 w (Or.inl ⟨rfl, rfl⟩))
      have CB := hide (fun w => word_add r l1 0 0 w (Or.inl ⟨rfl, rfl⟩))
      rw [← e0, ← e1] at CM
      rw [← e2, ← e3] at CA
      rw [← e5, ← e6] at CB
      have E4 : (h0 : Int) + (c1 : Int) = (h1' : Int) := by omega
      have E7 : (h1' : Int) + (c2 : Int) = (c3 : Int) := by omega
      clear hr hb e0 e1 e2 e3 e4 e5 e6 e7 q4
      go_wp2_with fail
      refine (unhide CM _).mono ?_
      rintro e w1 ⟨rfl, rfl⟩
      go_wp2_with fail
      refine (unhide CA _).mono ?_
      rintro e w2 ⟨rfl, rfl⟩
      go_wp2_with fail
      refine (unhide CB _).mono ?_
      rintro e w3 ⟨rfl, rfl⟩
      go_wp2
      exact ⟨⟨k + 1, c3, _, by omega, by first | rfl | exact congrArg (Value.int .u64) E7, by go_num, q2, hBlk.set (o + k) d, H2, hRb.but (grown_set _ _ _ _) (unhide HNE), grown_trans hG (grown_set _ _ _ _)⟩, by simp [intOf]; omega⟩
    · obtain rfl : k = lb := by omega
      go_wp2
      go_ret
      exact ⟨cy, zs, rfl, hAt.out, hBlk, hG⟩

end Go.Proofs.Yteinonbijiokmaa

/- crossProducts and squares of school. -/
namespace Go.Proofs.Yteinonbijiokmaa
open Go.RowKit

theorem blk_noughts (w : World) (n : Nat) : Blk (w.alloc (.cells (zlist n).toArray 28)) w.heap.size (List.replicate n 0) := heap_alloc_new w _

theorem Rep.drop {w : World} {ga : Option Addr} {b o cap : Nat} {xs : List Nat} (h : Rep w ga b o cap xs) (s : Nat) (hs : s ≤ xs.length) : Rep w (some ⟨b, o + s, none⟩) b (o + s) (cap - s) (xs.drop s) :=
  ⟨fun _ => rfl, by have := h.room; simp; omega, fun j hj => by
    have hj' : s + j < xs.length := by simp at hj; omega
    have := h.cell (s + j) hj'
    rw [Nat.add_assoc, this]
    simp [List.getD_eq_getElem?_getD]⟩

end Go.Proofs.Yteinonbijiokmaa

/- squares of school. -/
namespace Go.Proofs.Yteinonbijiokmaa
open Go.RowKit

end Go.Proofs.Yteinonbijiokmaa

/- Cmp of limb, and Compare of package cmp. -/
namespace Go.Proofs.Yteinonbijiokmaa
open Go.RowKit

/-- A callee that draws nothing, met behind two regions that draw. -/
theorem quiet_two {P : Program} {f : FuncId} {args : Array Value} {w : World} {q n : Nat} {v : Value} (h : Calls P f args (w.drewN (q + n)) fun e w' => e = .returned v ∧ w' = w.drewN (q + n)) : Calls P f args (w.drewN (q + n)) fun e w'' => e = .returned v ∧ ∃ m, w'' = w.drewN (q + m) :=
  h.mono fun _ _ ⟨he, hm⟩ => ⟨he, n, hm⟩

theorem cmpN_of {m n a b : Nat} (h1 : a < b → m < n) (h2 : b < a → n < m) (h : a ≠ b) : cmpN a b = cmpN m n := by
  rcases Nat.lt_trichotomy a b with k | k | k
  · rw [cmpN_lt k, cmpN_lt (h1 k)]
  · exact absurd k h
  · rw [cmpN_gt k, cmpN_gt (h2 k)]

end Go.Proofs.Yteinonbijiokmaa

/- Zero, within, farthest and Join of limb: parts, each so many words higher than the one ahead, are summed. -/
namespace Go.Proofs.Yteinonbijiokmaa
open Go.RowKit

theorem wval_zero {us : List Nat} (h : WCan us) : us.length = 0 ↔ wval us = 0 := by
  constructor
  · intro e
    obtain rfl : us = [] := List.length_eq_zero_iff.1 e
    rfl
  · intro e
    have := wlen_le h (L := 0) (by rw [e]; decide)
    omega

/-- Len of a row that came in: as many words as its number has. -/
theorem len_in {w : World} {v : Value} {n : Nat} (h : InW w v n) : ∃ l, l ≤ 1073741824 ∧ (∀ us, WCan us → wval us = n → us.length = l) ∧ (l = 0 ↔ n = 0) ∧ Calls Try.prog 93 #[v] w fun e w' => e = .returned (.int .i64 (l : Int)) ∧ w' = w := by
  obtain ⟨ga, b, o, cap, xs, rfl, hr, hd, hv, hl⟩ := h
  have hc := nrm_wcan hd
  have hle := nlen_le xs xs.length
  refine ⟨nlen xs xs.length, by omega, fun us h1 h2 => ?_, ?_, len_any w ga b o cap _ xs rfl (by omega) hr⟩
  · rw [← nrm_length, wCan_unique h1 hc (by rw [nrm_wval, h2, hv])]
  · rw [← nrm_length, wval_zero hc, nrm_wval, hv]

set_option maxHeartbeats 400000 in
theorem zero_in {w : World} {v : Value} {n : Nat} (h : InW w v n) (b : Bool) (hb : b = decide (n = 0)) : Calls Try.prog 100 #[v] w fun e w' => e = .returned (.bool b) ∧ w' = w := by
  obtain ⟨l, h1, h2, h3, CL⟩ := len_in h
  have CL := hide CL
  have hq : ((l : Int) == 0) = b := by
    rw [hb]
    by_cases hn : n = 0
    · have : l = 0 := h3.2 hn
      subst this; simp [hn]
    · have : l ≠ 0 := fun e => hn (h3.1 e)
      simp [hn]; omega
  clear h h2 h3 hb
  go_enter Try.func100, Try.ntmps100
  go_wp2_with fail
  refine (unhide CL).mono ?_
  rintro e w' ⟨rfl, rfl⟩
  clear CL
  go_wp2
  go_ret
  exact ⟨rfl, rfl⟩

set_option maxHeartbeats 400000 in
theorem within_lim (z : Int) (most k : Nat) (w : World) (hk : (k : Int) = min (max z 0) (most : Int)) : Calls Try.prog 73 #[.int .i64 z, .int .i64 (most : Int)] w fun e w' => e = .returned (.int .i64 (k : Int)) ∧ w' = w := by
  have HK := hide hk
  clear hk
  go_enter Try.func73, Try.ntmps73
  go_wp2
  go_ret
  exact ⟨ret_int (unhide HK).symm, rfl⟩

/-- Parts: a row of rows in memory, each of which says a number. -/
structure Parts (w : World) (gp : Option Addr) (bp op : Nat) (vs : List Value) (ns : List Nat) : Prop where
  head : 0 < vs.length → gp = some ⟨bp, op, none⟩
  len : ns.length = vs.length
  cell : ∀ j, j < vs.length → w.cell? ⟨bp, op + j, none⟩ = some (vs.getD j undef)
  each : ∀ j, j < vs.length → InW w (vs.getD j undef) (ns.getD j 0)

theorem Parts.lt {w : World} {gp : Option Addr} {bp op : Nat} {vs : List Value} {ns : List Nat} (h : Parts w gp bp op vs ns) (h0 : 0 < vs.length) : bp < w.heap.size := World.block_lt_of_cell? _ _ (h.cell 0 h0)
theorem Parts.next {w w' : World} {gp : Option Addr} {bp op : Nat} {vs : List Value} {ns : List Nat} (h : Parts w gp bp op vs ns) (hb : Below w.heap.size w w') : Parts w' gp bp op vs ns :=
  ⟨h.head, h.len, fun j hj => (hb.cell (by exact h.lt (by omega))).trans (h.cell j hj), fun j hj => (h.each j hj).next hb⟩

/-- The sum of the first i parts, the j-th times B to the k j. -/
def jsum (k : Nat) (ns : List Nat) : Nat → Nat
  | 0 => 0
  | i + 1 => jsum k ns i + 18446744073709551616 ^ (k * i) * ns.getD i 0

/-- E is not nearer than the end of any part. -/
def Far (k : Nat) (ns : List Nat) (i E : Nat) : Prop := ∀ j, j < i → ns.getD j 0 ≠ 0 → ∀ us, WCan us → wval us = ns.getD j 0 → k * j + us.length ≤ E

theorem far_zero {k : Nat} {ns : List Nat} {i E : Nat} (h : Far k ns i E) (hz : ns.getD i 0 = 0) : Far k ns (i + 1) E := fun j hj hn us h1 h2 => by
  by_cases e : j = i
  · subst e; exact absurd hz hn
  · exact h j (by omega) hn us h1 h2
theorem far_more {k : Nat} {ns : List Nat} {i E l E' : Nat} (h : Far k ns i E) (hl : ∀ us, WCan us → wval us = ns.getD i 0 → us.length = l) (h1 : E ≤ E') (h2 : k * i + l ≤ E') : Far k ns (i + 1) E' := fun j hj hn us c1 c2 => by
  by_cases e : j = i
  · subst e; have := hl us c1 c2; omega
  · have := h j (by omega) hn us c1 c2; omega

theorem jsum_lt {k : Nat} {ns : List Nat} {i E : Nat} (hF : Far k ns i E) (hW : ∀ j, j < i → ∃ us, WCan us ∧ wval us = ns.getD j 0) : ∀ j, j ≤ i → jsum k ns j ≤ j * (18446744073709551616 ^ E - 1)
  | 0 => fun _ => by simp [jsum]
  | j + 1 => fun hj => by
    have ih := jsum_lt hF hW j (by omega)
    have ht : 18446744073709551616 ^ (k * j) * ns.getD j 0 ≤ 18446744073709551616 ^ E - 1 := by
      by_cases hn : ns.getD j 0 = 0
      · rw [hn]; simp
      · obtain ⟨us, h1, h2⟩ := hW j (by omega)
        have h3 := hF j (by omega) hn us h1 h2
        have h4 := wval_lt_pow h1.1
        rw [h2] at h4
        have h5 : 18446744073709551616 ^ (k * j) * (ns.getD j 0 + 1) ≤ 18446744073709551616 ^ (k * j) * 18446744073709551616 ^ us.length := Nat.mul_le_mul_left _ h4
        rw [← Nat.pow_add] at h5
        have h6 : 18446744073709551616 ^ (k * j + us.length) ≤ 18446744073709551616 ^ E := Nat.pow_le_pow_right (by omega) h3
        have h7 := wpow_pos (k * j)
        rw [Nat.mul_add, Nat.mul_one] at h5
        omega
    rw [jsum, Nat.add_mul, Nat.one_mul]
    omega
theorem jsum_room {k : Nat} {ns : List Nat} {i E : Nat} (hF : Far k ns i E) (hW : ∀ j, j < i → ∃ us, WCan us ∧ wval us = ns.getD j 0) (hi : i ≤ 65536) : ∀ j, j ≤ i → jsum k ns j < 18446744073709551616 ^ (E + 1) := fun j hj => by
  have h1 := jsum_lt hF hW j hj
  have h2 : j * (18446744073709551616 ^ E - 1) ≤ 65536 * (18446744073709551616 ^ E - 1) := Nat.mul_le_mul_right _ (by omega)
  have h3 := wpow_pos E
  rw [Nat.pow_succ]
  omega

theorem in_words {w : World} {v : Value} {n : Nat} (h : InW w v n) : ∃ us, WCan us ∧ wval us = n := by
  obtain ⟨ga, b, o, cap, xs, rfl, hr, hd, hv, hl⟩ := h
  exact ⟨nrm xs, nrm_wcan hd, by rw [nrm_wval]; exact hv⟩

set_option maxRecDepth 100000 in
set_option maxHeartbeats 3200000 in
theorem farthest_any (w : World) (gp : Option Addr) (bp op cp np k : Nat) (vs : List Value) (ns : List Nat) (hvl : vs.length = np) (hnp : np ≤ 65536) (hk : k ≤ 16384) (hP : Parts w gp bp op vs ns) :
    Calls Try.prog 99 #[.int .i64 (k : Int), .slice gp np cp] w fun e w' => ∃ E : Nat, e = .returned (.int .i64 (E : Int)) ∧ E ≤ 4294967296 ∧ Far k ns np E ∧ w' = w := by
  go_enter Try.func99, Try.ntmps99
  go_wp2
  go_loop [5, 10] (fun e i => ∃ (q E : Nat), q ≤ np ∧ e = .int .i64 (E : Int) ∧ i = .int .i64 (q : Int) ∧ E ≤ 4294967296 ∧ Hid (Far k ns q E)) (fun _ i => np - (intOf i).toNat)
  case atStart => exact ⟨0, 0, Nat.zero_le _, rfl, rfl, by omega, fun j hj => absurd hj (by omega)⟩
  case round =>
    obtain ⟨q, E, hq, rfl, rfl, hE, hF⟩ := hrel
    by_cases h1 : q < np
    · obtain rfl := hP.head (by omega)
      have cv := hP.cell q (by omega)
      have hin := hP.each q (by omega)
      obtain ⟨v, hv⟩ : ∃ v, v = vs.getD q undef := ⟨_, rfl⟩
      obtain ⟨n, hn⟩ : ∃ n, n = ns.getD q 0 := ⟨_, rfl⟩
      rw [← hv] at cv hin
      rw [← hn] at hin
      obtain ⟨l, hl, hl2, hl3, CL⟩ := len_in hin
      have CL := hide CL
      by_cases h0 : n = 0
      · have CZ := hide (zero_in hin true (by simp [h0]))
        have H2 := hide (far_zero hF.out (by rw [← hn]; exact h0))
        clear hv hn hin hl2 hl3 h0
        go_wp2_with fail
        refine (unhide CZ).mono ?_
        rintro e w' ⟨rfl, rfl⟩
        clear CZ CL
        go_wp2
        exact ⟨⟨q + 1, E, by omega, rfl, by go_num, hE, H2⟩, by simp [intOf]; omega⟩
      · have CZ := hide (zero_in hin false (by simp [h0]))
        obtain ⟨p, hp⟩ : ∃ p, p = k * q := ⟨_, rfl⟩
        have hpb : p ≤ 1073741824 := by rw [hp]; exact Nat.mul_le_mul (m₂ := 65536) hk (by omega)
        have hpi : (k : Int) * (q : Int) = (p : Int) := by rw [hp]; exact (Int.natCast_mul k q).symm
        have HP := hide hp
        have H2 := hide (far_more (E' := max E (p + l)) hF.out (by rw [← hn]; exact hl2) (by omega) (by omega))
        clear hv hn hin hl2 hl3 h0 hp
        go_wp2_with fail
        refine (unhide CZ).mono ?_
        rintro e w' ⟨rfl, rfl⟩
        clear CZ
        go_wp2_with fail
        refine (unhide CL).mono ?_
        rintro e w' ⟨rfl, rfl⟩
        clear CL
        go_wp2
        exact ⟨⟨q + 1, max E (p + l), by omega, congrArg (Value.int .i64) (by omega), by go_num, by omega, H2⟩, by simp [intOf]; omega⟩
    · obtain rfl : q = np := by omega
      go_wp2
      go_ret
      exact ⟨E, rfl, hE, hF.out, rfl⟩

end Go.Proofs.Yteinonbijiokmaa
