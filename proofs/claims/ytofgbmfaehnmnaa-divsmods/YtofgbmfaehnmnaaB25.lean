/- addTo and takeFrom of limb: a row is added to a piece of another, or taken from it. -/
import Derived.Test.YtofgbmfaehnmnaaB14
import Derived.Test.YtofgbmfaehnmnaaB22
import Derived.Deep.QuietTactic
import Derived.BigQuiet
import Derived.WalkSmall
import Derived.Test.YtofgbmfaehnmnaaB6
namespace Go.Proofs.Ytofgbmfaehnmnaa
open Go.RowKit

/-- k words of bs are added at o; c is carried. -/
def WAddAt (z0 zs bs : List Nat) (o k c : Nat) : Prop := zs.length = z0.length ∧ WDig zs ∧ c ≤ 1 ∧ wval zs + 18446744073709551616 ^ (o + k) * c = wval z0 + 18446744073709551616 ^ o * wval (bs.take k)
theorem wadd_start {z0 : List Nat} (h : WDig z0) (bs : List Nat) (o : Nat) : WAddAt z0 z0 bs o 0 0 := ⟨rfl, h, by omega, by simp [wval]⟩
theorem wadd_step {z0 zs bs : List Nat} {o k c r b : Nat} (h : WAddAt z0 zs bs o k c) (hk : o + k < zs.length) (hr : r = zs.getD (o + k) 0) (hb : b = bs.getD k 0) (hb64 : b < 18446744073709551616) :
    WAddAt z0 (zs.set (o + k) ((r + b + c) % 18446744073709551616)) bs o (k + 1) ((r + b + c) / 18446744073709551616) := by
  obtain ⟨h1, h2, h3, h4⟩ := h
  have hr64 : r < 18446744073709551616 := by rw [hr]; exact h2 _
  refine ⟨by simpa using h1, wDig_set h2 hk (Nat.mod_lt _ (by omega)), by omega, ?_⟩
  have hs := wval_set zs (o + k) ((r + b + c) % 18446744073709551616) hk
  rw [← hr] at hs
  rw [wval_take_succ, ← hb, Nat.mul_add, ← Nat.mul_assoc, ← Nat.pow_add, ← Nat.add_assoc o k 1, Nat.pow_succ, Nat.mul_assoc]
  have e : 18446744073709551616 ^ (o + k) * ((r + b + c) % 18446744073709551616) + 18446744073709551616 ^ (o + k) * (18446744073709551616 * ((r + b + c) / 18446744073709551616)) = 18446744073709551616 ^ (o + k) * r + 18446744073709551616 ^ (o + k) * b + 18446744073709551616 ^ (o + k) * c := by
    rw [← Nat.mul_add, Nat.mod_add_div, Nat.mul_add, Nat.mul_add]
  omega
theorem wadd_room {z0 zs bs : List Nat} {o k c N : Nat} (h : WAddAt z0 zs bs o k c) (hk : bs.length ≤ k) (hc : 0 < c) (hr : wval z0 + 18446744073709551616 ^ o * wval bs < 18446744073709551616 ^ N) : o + k < N := by
  obtain ⟨_, _, h3, h4⟩ := h
  rw [wval_take_ge _ _ hk, show c = 1 from by omega, Nat.mul_one] at h4
  refine Nat.lt_of_not_le fun hle => ?_
  have := Nat.pow_le_pow_right (n := 18446744073709551616) (by omega) hle
  omega
theorem wadd_end {z0 zs bs : List Nat} {o k c : Nat} (h : WAddAt z0 zs bs o k c) (hk : bs.length ≤ k) (hc : c = 0) : wval zs = wval z0 + 18446744073709551616 ^ o * wval bs := by
  obtain ⟨_, _, _, h4⟩ := h
  rw [wval_take_ge _ _ hk, hc, Nat.mul_zero] at h4
  exact h4

/-- k words of bs are taken at o; c is borrowed. -/
def WSubAt (z0 zs bs : List Nat) (o k c : Nat) : Prop := zs.length = z0.length ∧ WDig zs ∧ c ≤ 1 ∧ wval zs + 18446744073709551616 ^ o * wval (bs.take k) = wval z0 + 18446744073709551616 ^ (o + k) * c
theorem wsub_start {z0 : List Nat} (h : WDig z0) (bs : List Nat) (o : Nat) : WSubAt z0 z0 bs o 0 0 := ⟨rfl, h, by omega, by simp [wval]⟩
theorem wsub_step {z0 zs bs : List Nat} {o k c r b : Nat} (h : WSubAt z0 zs bs o k c) (hk : o + k < zs.length) (hr : r = zs.getD (o + k) 0) (hb : b = bs.getD k 0) (hb64 : b < 18446744073709551616) :
    WSubAt z0 (zs.set (o + k) ((r + 18446744073709551616 - b - c) % 18446744073709551616)) bs o (k + 1) (if r < b + c then 1 else 0) := by
  obtain ⟨h1, h2, h3, h4⟩ := h
  have hr64 : r < 18446744073709551616 := by rw [hr]; exact h2 _
  refine ⟨by simpa using h1, wDig_set h2 hk (Nat.mod_lt _ (by omega)), by split <;> omega, ?_⟩
  have hs := wval_set zs (o + k) ((r + 18446744073709551616 - b - c) % 18446744073709551616) hk
  rw [← hr] at hs
  rw [wval_take_succ, ← hb, Nat.mul_add, ← Nat.mul_assoc, ← Nat.pow_add, ← Nat.add_assoc o k 1, Nat.pow_succ, Nat.mul_assoc]
  have hd : (r + 18446744073709551616 - b - c) % 18446744073709551616 + b + c = r + 18446744073709551616 * (if r < b + c then 1 else 0) := by split <;> omega
  have e : 18446744073709551616 ^ (o + k) * ((r + 18446744073709551616 - b - c) % 18446744073709551616) + 18446744073709551616 ^ (o + k) * b + 18446744073709551616 ^ (o + k) * c = 18446744073709551616 ^ (o + k) * r + 18446744073709551616 ^ (o + k) * (18446744073709551616 * (if r < b + c then 1 else 0)) := by
    rw [← Nat.mul_add, ← Nat.mul_add, hd, Nat.mul_add]
  omega
theorem wsub_end {z0 zs bs : List Nat} {o k : Nat} (h : WSubAt z0 zs bs o k 0) (hk : bs.length ≤ k) : wval zs + 18446744073709551616 ^ o * wval bs = wval z0 := by
  obtain ⟨_, _, _, h4⟩ := h
  rw [wval_take_ge _ _ hk, Nat.mul_zero] at h4
  exact h4
theorem wsub_less {z0 zs bs : List Nat} {o k : Nat} (h : WSubAt z0 zs bs o k 1) (hk : bs.length ≤ k) (hN : z0.length ≤ o + k) : wval z0 < 18446744073709551616 ^ o * wval bs := by
  obtain ⟨h1, h2, _, h4⟩ := h
  rw [wval_take_ge _ _ hk, Nat.mul_one] at h4
  have := wval_lt_pow h2
  have := Nat.pow_le_pow_right (n := 18446744073709551616) (by omega) hN
  rw [h1] at *
  omega

theorem word_carry (c : Nat) (h : c ≤ 1) : (c = 0 ∧ c = 0) ∨ (c ≠ 0 ∧ c = 1) := by omega

/-- What takeFrom leaves: the row, and whether there was too little. -/
def TakeDone (w : World) (g o n : Nat) (z0 bs : List Nat) (e : Ending) (w' : World) : Prop := ∃ (c : Nat) (zs : List Nat), e = .returned (.int .u64 (c : Int)) ∧ c ≤ 1 ∧ zs.length = o + n ∧ WDig zs ∧ Blk w' g zs ∧ w.grownBy w' (some g) ∧
  ((c = 0 ∧ wval zs + 18446744073709551616 ^ o * wval bs = wval z0) ∨ (c = 1 ∧ wval z0 < 18446744073709551616 ^ o * wval bs))
theorem take_mk {w w' : World} {g o n : Nat} {z0 bs : List Nat} (c : Nat) (zs : List Nat) (h1 : c ≤ 1) (h2 : zs.length = o + n) (h3 : WDig zs) (h4 : Blk w' g zs) (h5 : w.grownBy w' (some g)) (h6 : (c = 0 ∧ wval zs + 18446744073709551616 ^ o * wval bs = wval z0) ∨ (c = 1 ∧ wval z0 < 18446744073709551616 ^ o * wval bs)) :
    TakeDone w g o n z0 bs (.returned (.int .u64 (c : Int))) w' := ⟨c, zs, rfl, h1, h2, h3, h4, h5, h6⟩

end Go.Proofs.Ytofgbmfaehnmnaa

/- Norm, One, Add, Sub of limb. -/
namespace Go.Proofs.Ytofgbmfaehnmnaa
open Go.RowKit

/-- trim of a row that came in. -/
theorem trim_in {w : World} {v : Value} {n : Nat} (h : InW w v n) : ∃ ga b o cap us, Rep w ga b o cap us ∧ WCan us ∧ wval us = n ∧ us.length ≤ 1073741824 ∧ Calls Try.prog 42 #[v] w fun e w' => e = .returned (.slice ga us.length cap) ∧ w' = w := by
  obtain ⟨ga, b, o, cap, xs, rfl, hr, hd, hv, hl⟩ := h
  have hle := nlen_le xs xs.length
  exact ⟨ga, b, o, cap, nrm xs, hr.take _ hle, nrm_wcan hd, by rw [nrm_wval]; exact hv, by rw [nrm_length]; omega, trim_any w ga b o cap _ _ xs rfl (by omega) hr (nrm_length xs)⟩

theorem wval_pad (us : List Nat) (j : Nat) : wval (us ++ List.replicate j 0) = wval us := by rw [wval_append, (wzeros j).2, Nat.mul_zero, Nat.add_zero]
theorem wDig_pad {us : List Nat} (h : WDig us) (j : Nat) : WDig (us ++ List.replicate j 0) := wDig_append h (wzeros j).1
theorem add_room {us vs : List Nat} {N : Nat} (h1 : WDig us) (h2 : WDig vs) (hN : N = max us.length vs.length + 1) : wval us + wval vs < 18446744073709551616 ^ N := by
  have a := pow_up (wval_lt_pow h1) (q := N - 1) (by omega)
  have b := pow_up (wval_lt_pow h2) (q := N - 1) (by omega)
  have := pow_sum a b
  rwa [show N - 1 + 1 = N from by omega] at this

/-- trim of a row in a block of its own. -/
theorem trim_blk {B : Nat} {w : World} {g N : Nat} {zs : List Nat} (hl : zs.length = N) (hN : N ≤ 1099511627776) (hg : B ≤ g) (hk : Blk w g zs) (hd : WDig zs) :
    Calls Try.prog 42 #[.slice (some ⟨g, 0, none⟩) N N] w fun e w' => ∃ v, e = .returned v ∧ NewW B w v (wval zs) ∧ w' = w := by
  subst hl
  have hr := hk.rep 0 zs.length zs.length (by omega) (Nat.le_refl _)
  rw [List.drop_zero, List.take_length] at hr
  refine (trim_any w _ g 0 _ _ _ zs rfl hN hr rfl).mono ?_
  rintro e w' ⟨rfl, rfl⟩
  exact ⟨_, rfl, newW_blk hg hk hd hN, rfl⟩

/-- What Sub and SubMul leave. -/
def SubDone (w : World) (m n : Nat) (e : Ending) (w' : World) : Prop := Below w.heap.size w w' ∧ ((n ≤ m ∧ ∃ r, e = .returned (.tuple #[r, .bool true]) ∧ NewW w.heap.size w' r (m - n)) ∨ (m < n ∧ e = .returned (.tuple #[.slice none 0 0, .bool false])))
theorem sub_no_mk {w w' : World} {m n : Nat} (hb : Below w.heap.size w w') (h : m < n) : SubDone w m n (.returned (.tuple #[.slice none 0 0, .bool false])) w' := ⟨hb, Or.inr ⟨h, rfl⟩⟩
theorem sub_yes_mk {w w' : World} {m n : Nat} {r : Value} (hb : Below w.heap.size w w') (h : n ≤ m) (hr : NewW w.heap.size w' r (m - n)) : SubDone w m n (.returned (.tuple #[r, .bool true])) w' := ⟨hb, Or.inl ⟨h, r, rfl, hr⟩⟩

set_option maxRecDepth 100000 in
set_option maxHeartbeats 1600000 in
theorem norm_w (w : World) (u : Value) (m : Nat) (hu : InW w u m) :
    Calls Try.prog 25 #[u] w fun e w' => ∃ r, e = .returned r ∧ NewW w.heap.size w' r m ∧ Below w.heap.size w w' := by
  obtain ⟨ga, ba, oa, ca, us, rA, cA, vA, lA, CA⟩ := trim_in hu
  have CA := hide CA
  obtain ⟨la, hla⟩ : ∃ la, la = us.length := ⟨_, rfl⟩
  rw [← hla] at CA lA
  have HLA := hide hla
  clear hu hla
  go_enter Try.func25, Try.ntmps25
  go_wp2_with fail
  refine (unhide CA).mono ?_
  rintro e w1 ⟨rfl, rfl⟩
  clear CA
  go_wp2_with fail
  refine (copyOf_any _ ga ba oa ca la us (unhide HLA).symm (by omega) rA).mono ?_
  rintro e w3 ⟨rfl, k3, b3⟩
  go_wp2
  go_ret
  refine ⟨_, rfl, ⟨us, cA, vA, Or.inr ⟨w1.heap.size, [], Nat.le_refl _, ?_, by rw [List.append_nil]; exact k3, by rw [← unhide HLA]; simp; omega⟩⟩, b3⟩
  rw [List.append_nil, ← unhide HLA]
  rfl

set_option maxRecDepth 100000 in
set_option maxHeartbeats 1600000 in
theorem one_w (w : World) (x : Nat) (hx : x < 18446744073709551616) :
    Calls Try.prog 28 #[.int .u64 (x : Int)] w fun e w' => ∃ r, e = .returned r ∧ NewW w.heap.size w' r x ∧ Below w.heap.size w w' := by
  have hk : Blk (w.alloc (.cells #[.int .u64 (x : Int)] 72)) w.heap.size [x] := heap_alloc_new w _
  have hb : Below w.heap.size w (w.alloc (.cells #[.int .u64 (x : Int)] 72)) := (Below.refl _ _).alloc (Nat.le_refl _) _
  have CT := hide (trim_blk (N := 1) rfl (by omega) (Nat.le_refl _) hk (wDig_one hx))
  have HB := hide hb
  rw [wval_one] at CT
  clear hk hb
  go_enter Try.func28, Try.ntmps28
  go_wp2_with fail
  refine (unhide CT).mono ?_
  rintro e w3 ⟨r, rfl, hr, rfl⟩
  go_wp2
  go_ret
  exact ⟨r, rfl, hr, unhide HB⟩

end Go.Proofs.Ytofgbmfaehnmnaa

/- Plain mathematics of products by hand. Nothing of any program here. -/
namespace Go.Proofs.Ytofgbmfaehnmnaa

/-- k words of bs times y are added from place o on; c is carried; all other words are as they were. -/
def SAt (z0 zs bs : List Nat) (y o k c : Nat) : Prop :=
  zs.length = z0.length ∧ WDig zs ∧ c < 18446744073709551616 ∧ wval zs + 18446744073709551616 ^ (o + k) * c = wval z0 + 18446744073709551616 ^ o * (y * wval (bs.take k)) ∧
    ∀ j, o + k ≤ j → zs.getD j 0 = z0.getD j 0
theorem s_start {z0 : List Nat} (h : WDig z0) (bs : List Nat) (y o : Nat) : SAt z0 z0 bs y o 0 0 := ⟨rfl, h, by omega, by simp [wval], fun _ _ => rfl⟩

/-- The product of two words, with two words more, has room in two words. -/
theorem s_parts {b y c r h0 l0 l1 c1 h1 d c2 c3 : Nat} (hb : b < 18446744073709551616) (hy : y < 18446744073709551616) (hc : c < 18446744073709551616) (hr : r < 18446744073709551616)
    (e0 : h0 = b * y / 18446744073709551616) (e1 : l0 = b * y % 18446744073709551616) (e2 : l1 = (l0 + c + 0) % 18446744073709551616) (e3 : c1 = (l0 + c + 0) / 18446744073709551616) (e4 : h1 = h0 + c1)
    (e5 : d = (r + l1 + 0) % 18446744073709551616) (e6 : c2 = (r + l1 + 0) / 18446744073709551616) (e7 : c3 = h1 + c2) :
    h1 < 18446744073709551616 ∧ c3 < 18446744073709551616 ∧ d < 18446744073709551616 ∧ d + 18446744073709551616 * c3 = r + b * y + c := by
  have hp : b * y ≤ 18446744073709551615 * 18446744073709551615 := Nat.mul_le_mul (by omega) (by omega)
  generalize b * y = p at *
  omega

theorem s_step {z0 zs bs : List Nat} {y o k c r b d c3 : Nat} (h : SAt z0 zs bs y o k c) (hk : o + k < zs.length) (hr : r = zs.getD (o + k) 0) (hb : b = bs.getD k 0)
    (hd : d < 18446744073709551616) (hc3 : c3 < 18446744073709551616) (he : d + 18446744073709551616 * c3 = r + b * y + c) : SAt z0 (zs.set (o + k) d) bs y o (k + 1) c3 := by
  obtain ⟨h1, h2, h3, h4, h5⟩ := h
  refine ⟨by simpa using h1, wDig_set h2 hk hd, hc3, ?_, fun j hj => ?_⟩
  · have hs := wval_set zs (o + k) d hk
    rw [← hr] at hs
    rw [wval_take_succ, ← hb, Nat.mul_add y, Nat.mul_left_comm y, Nat.mul_add, ← Nat.mul_assoc (18446744073709551616 ^ o) (18446744073709551616 ^ k), ← Nat.pow_add, ← Nat.add_assoc o k 1, Nat.pow_succ, Nat.mul_assoc (18446744073709551616 ^ (o + k))]
    have e : 18446744073709551616 ^ (o + k) * d + 18446744073709551616 ^ (o + k) * (18446744073709551616 * c3) = 18446744073709551616 ^ (o + k) * r + 18446744073709551616 ^ (o + k) * (y * b) + 18446744073709551616 ^ (o + k) * c := by
      rw [← Nat.mul_add, he, Nat.mul_add, Nat.mul_add, Nat.mul_comm b y]
    omega
  · rw [← h5 j (by omega)]
    simp [List.getD_eq_getElem?_getD, show ¬ o + k = j by omega]

/-- The words from place k on are noughts. -/
def Nought (zs : List Nat) (k : Nat) : Prop := ∀ j, k ≤ j → zs.getD j 0 = 0
theorem nought_all (n k : Nat) : Nought (List.replicate n 0) k := fun j _ => by simp [List.getD_eq_getElem?_getD, List.getElem?_replicate]; split <;> rfl
theorem wval_noughts : ∀ n, wval (List.replicate n 0) = 0
  | 0 => rfl
  | n + 1 => by rw [List.replicate_succ, wval, wval_noughts n]
theorem wDig_noughts (n : Nat) : WDig (List.replicate n 0) := fun j => by rw [nought_all n 0 j (by omega)]; omega

/-- What is carried is laid on top of what was added. -/
theorem s_top {z0 zs bs : List Nat} {y o k c : Nat} (h : SAt z0 zs bs y o k c) (hk : bs.length ≤ k) (hz : Nought z0 (o + k)) (ho : o + k < zs.length) :
    (zs.set (o + k) c).length = z0.length ∧ WDig (zs.set (o + k) c) ∧ wval (zs.set (o + k) c) = wval z0 + 18446744073709551616 ^ o * (y * wval bs) ∧ Nought (zs.set (o + k) c) (o + k + 1) := by
  obtain ⟨h1, h2, h3, h4, h5⟩ := h
  refine ⟨by simpa using h1, wDig_set h2 ho h3, ?_, fun j hj => ?_⟩
  · have hs := wval_set zs (o + k) c ho
    rw [h5 _ (Nat.le_refl _), hz _ (Nat.le_refl _), Nat.mul_zero] at hs
    rw [wval_take_ge _ _ hk] at h4
    omega
  · have : (zs.set (o + k) c).getD j 0 = zs.getD j 0 := by simp [List.getD_eq_getElem?_getD, show ¬ o + k = j by omega]
    rw [this, h5 j (by omega), hz j (by omega)]

/-- k words of bs are multiplied by xs, and summed. -/
def MRow (xs bs zs : List Nat) (N k : Nat) : Prop := zs.length = N ∧ WDig zs ∧ wval zs = wval xs * wval (bs.take k) ∧ Nought zs (k + xs.length)
theorem m_start (xs bs : List Nat) (N : Nat) : MRow xs bs (List.replicate N 0) N 0 := ⟨by simp, wDig_noughts _, by rw [wval_noughts]; simp [wval], nought_all _ _⟩
theorem m_step {xs bs z0 zs : List Nat} {N k c y : Nat} (h : MRow xs bs z0 N k) (hs : SAt z0 zs xs y k xs.length c) (hy : y = bs.getD k 0) (hk : k + xs.length < N) : MRow xs bs (zs.set (k + xs.length) c) N (k + 1) := by
  obtain ⟨h1, h2, h3, h4⟩ := h
  obtain ⟨t1, t2, t3, t4⟩ := s_top hs (Nat.le_refl _) h4 (by rw [hs.1, h1]; exact hk)
  refine ⟨by rw [t1, h1], t2, ?_, fun j hj => t4 j (by omega)⟩
  rw [t3, h3, wval_take_succ, ← hy, Nat.mul_add, Nat.mul_left_comm (wval xs), Nat.mul_comm (wval xs) y]

/-- The sum of the products of each two words, as far as k words are done; the sum of the squares. -/
def crs (xs : List Nat) : Nat → Nat
  | 0 => 0
  | k + 1 => crs xs k + 18446744073709551616 ^ (2 * k + 1) * (xs.getD k 0 * wval (xs.drop (k + 1)))
def sqs (xs : List Nat) : Nat → Nat
  | 0 => 0
  | k + 1 => sqs xs k + 18446744073709551616 ^ (2 * k) * (xs.getD k 0 * xs.getD k 0)
theorem wval_drop_one (xs : List Nat) (k : Nat) : wval (xs.drop k) = xs.getD k 0 + 18446744073709551616 * wval (xs.drop (k + 1)) := by
  by_cases h : k < xs.length
  · rw [List.drop_eq_getElem_cons h, wval, getD_lt h]
  · rw [List.drop_eq_nil_of_le (by omega), List.drop_eq_nil_of_le (by omega), getD_ge (by omega)]; simp [wval]
theorem sq_step (p B x v : Nat) : p * ((x + B * v) * (x + B * v)) = p * (x * x) + p * B * (x * v) + p * B * (x * v) + p * B * B * (v * v) := by
  have e : (x + B * v) * (x + B * v) = x * x + B * (x * v) + B * (x * v) + B * B * (v * v) := by
    rw [Nat.mul_add, Nat.add_mul, Nat.add_mul, Nat.mul_comm (B * v) x, Nat.mul_left_comm x B v, Nat.mul_assoc B v, Nat.mul_left_comm v B v, ← Nat.mul_assoc B B]
    omega
  rw [e, Nat.mul_add, Nat.mul_add, Nat.mul_add, ← Nat.mul_assoc p B (x * v), ← Nat.mul_assoc p (B * B), ← Nat.mul_assoc p B B]
theorem sum_help (c s t1 t2 t3 : Nat) : c + t1 + (c + t1) + (s + t3) + t2 = c + c + s + (t3 + t1 + t1 + t2) := by omega
theorem square_sum (xs : List Nat) : ∀ k, crs xs k + crs xs k + sqs xs k + 18446744073709551616 ^ (2 * k) * (wval (xs.drop k) * wval (xs.drop k)) = wval xs * wval xs
  | 0 => by simp [crs, sqs]
  | k + 1 => by
    rw [← square_sum xs k, wval_drop_one xs k, crs, sqs, sq_step, show 2 * (k + 1) = 2 * k + 1 + 1 from by omega, Nat.pow_succ, Nat.pow_succ]
    exact sum_help _ _ _ _ _
theorem square_is (xs : List Nat) (n : Nat) (h : xs.length ≤ n) : crs xs n + crs xs n + sqs xs n = wval xs * wval xs := by
  have := square_sum xs n
  rw [List.drop_eq_nil_of_le h] at this
  simpa [wval] using this

/-- As far as k words are done: the products of each two. -/
def CRow (xs zs : List Nat) (n k : Nat) : Prop := zs.length = 2 * n ∧ WDig zs ∧ wval zs = crs xs k ∧ Nought zs (k + n)
theorem c_start (xs : List Nat) (n : Nat) : CRow xs (List.replicate (2 * n) 0) n 0 := ⟨by simp, wDig_noughts _, by rw [wval_noughts]; rfl, nought_all _ _⟩
theorem c_step {xs z0 zs : List Nat} {n k c y : Nat} (h : CRow xs z0 n k) (hs : SAt z0 zs (xs.drop (k + 1)) y (2 * k + 1) (n - (k + 1)) c) (hy : y = xs.getD k 0) (hl : xs.length = n) (hk : k < n) : CRow xs (zs.set (k + n) c) n (k + 1) := by
  obtain ⟨h1, h2, h3, h4⟩ := h
  have e : 2 * k + 1 + (n - (k + 1)) = k + n := by omega
  obtain ⟨t1, t2, t3, t4⟩ := s_top hs (by simp; omega) (by rw [e]; exact h4) (by rw [hs.1, h1]; omega)
  rw [e] at t1 t2 t3 t4
  refine ⟨by rw [t1, h1], t2, ?_, fun j hj => t4 j (by omega)⟩
  rw [t3, h3, crs, ← hy]

/-- As far as k words are done: their squares. -/
def QRow (xs zs : List Nat) (n k : Nat) : Prop := zs.length = 2 * n ∧ WDig zs ∧ wval zs = sqs xs k ∧ Nought zs (2 * k)
theorem q_start (xs : List Nat) (n : Nat) : QRow xs (List.replicate (2 * n) 0) n 0 := ⟨by simp, wDig_noughts _, by rw [wval_noughts]; rfl, nought_all _ _⟩
theorem q_step {xs zs : List Nat} {n k x hi lo : Nat} (h : QRow xs zs n k) (hx : x = xs.getD k 0) (hk : k < n) (hh : hi < 18446744073709551616) (hl : lo < 18446744073709551616) (he : 18446744073709551616 * hi + lo = x * x) :
    QRow xs ((zs.set (2 * k + 1) hi).set (2 * k) lo) n (k + 1) := by
  obtain ⟨h1, h2, h3, h4⟩ := h
  have d1 := wDig_set h2 (k := 2 * k + 1) (by omega) hh
  refine ⟨by simpa using h1, wDig_set d1 (by simp; omega) hl, ?_, fun j hj => ?_⟩
  · have s1 := wval_set zs (2 * k + 1) hi (by omega)
    rw [h4 _ (by omega), Nat.mul_zero] at s1
    have s2 := wval_set (zs.set (2 * k + 1) hi) (2 * k) lo (by simp; omega)
    have : (zs.set (2 * k + 1) hi).getD (2 * k) 0 = zs.getD (2 * k) 0 := by simp [List.getD_eq_getElem?_getD]
    rw [this, h4 _ (by omega), Nat.mul_zero] at s2
    rw [sqs, ← hx, ← he, Nat.mul_add, ← Nat.mul_assoc, ← Nat.pow_succ]
    show _ = _ + (18446744073709551616 ^ (2 * k + 1) * hi + _)
    omega
  · have : ((zs.set (2 * k + 1) hi).set (2 * k) lo).getD j 0 = zs.getD j 0 := by simp [List.getD_eq_getElem?_getD, show ¬ 2 * k + 1 = j by omega, show ¬ 2 * k = j by omega]
    rw [this, h4 j (by omega)]

end Go.Proofs.Ytofgbmfaehnmnaa

/- addTimes of school: a row times a word is added to a piece of another. -/
namespace Go.Proofs.Ytofgbmfaehnmnaa
open Go.RowKit

end Go.Proofs.Ytofgbmfaehnmnaa

/- crossProducts and squares of school. -/
namespace Go.Proofs.Ytofgbmfaehnmnaa
open Go.RowKit

theorem blk_noughts (w : World) (n : Nat) : Blk (w.alloc (.cells (zlist n).toArray 72)) w.heap.size (List.replicate n 0) := heap_alloc_new w _

theorem Rep.drop {w : World} {ga : Option Addr} {b o cap : Nat} {xs : List Nat} (h : Rep w ga b o cap xs) (s : Nat) (hs : s ≤ xs.length) : Rep w (some ⟨b, o + s, none⟩) b (o + s) (cap - s) (xs.drop s) :=
  ⟨fun _ => rfl, by have := h.room; simp; omega, fun j hj => by
    have hj' : s + j < xs.length := by simp at hj; omega
    have := h.cell (s + j) hj'
    rw [Nat.add_assoc, this]
    simp [List.getD_eq_getElem?_getD]⟩

end Go.Proofs.Ytofgbmfaehnmnaa

/- squares of school. -/
namespace Go.Proofs.Ytofgbmfaehnmnaa
open Go.RowKit

end Go.Proofs.Ytofgbmfaehnmnaa

/- Cmp of limb, and Compare of package cmp. -/
namespace Go.Proofs.Ytofgbmfaehnmnaa
open Go.RowKit

/-- A callee that draws nothing, met behind two regions that draw. -/
theorem quiet_two {P : Program} {f : FuncId} {args : Array Value} {w : World} {q n : Nat} {v : Value} (h : Calls P f args (w.drewN (q + n)) fun e w' => e = .returned v ∧ w' = w.drewN (q + n)) : Calls P f args (w.drewN (q + n)) fun e w'' => e = .returned v ∧ ∃ m, w'' = w.drewN (q + m) :=
  h.mono fun _ _ ⟨he, hm⟩ => ⟨he, n, hm⟩

theorem cmpN_of {m n a b : Nat} (h1 : a < b → m < n) (h2 : b < a → n < m) (h : a ≠ b) : cmpN a b = cmpN m n := by
  rcases Nat.lt_trichotomy a b with k | k | k
  · rw [cmpN_lt k, cmpN_lt (h1 k)]
  · exact absurd k h
  · rw [cmpN_gt k, cmpN_gt (h2 k)]

end Go.Proofs.Ytofgbmfaehnmnaa

/- Zero, within, farthest and Join of limb: parts, each so many words higher than the one ahead, are summed. -/
namespace Go.Proofs.Ytofgbmfaehnmnaa
open Go.RowKit

theorem wval_zero {us : List Nat} (h : WCan us) : us.length = 0 ↔ wval us = 0 := by
  constructor
  · intro e
    obtain rfl : us = [] := List.length_eq_zero_iff.1 e
    rfl
  · intro e
    have := wlen_le h (L := 0) (by rw [e]; decide)
    omega

/-- Len of a row that came in: as many words as its number has. -/
theorem len_in {w : World} {v : Value} {n : Nat} (h : InW w v n) : ∃ l, l ≤ 1073741824 ∧ (∀ us, WCan us → wval us = n → us.length = l) ∧ (l = 0 ↔ n = 0) ∧ Calls Try.prog 30 #[v] w fun e w' => e = .returned (.int .i64 (l : Int)) ∧ w' = w := by
  obtain ⟨ga, b, o, cap, xs, rfl, hr, hd, hv, hl⟩ := h
  have hc := nrm_wcan hd
  have hle := nlen_le xs xs.length
  refine ⟨nlen xs xs.length, by omega, fun us h1 h2 => ?_, ?_, len_any w ga b o cap _ xs rfl (by omega) hr⟩
  · rw [← nrm_length, wCan_unique h1 hc (by rw [nrm_wval, h2, hv])]
  · rw [← nrm_length, wval_zero hc, nrm_wval, hv]

set_option maxHeartbeats 400000 in
theorem zero_in {w : World} {v : Value} {n : Nat} (h : InW w v n) (b : Bool) (hb : b = decide (n = 0)) : Calls Try.prog 39 #[v] w fun e w' => e = .returned (.bool b) ∧ w' = w := by
  obtain ⟨l, h1, h2, h3, CL⟩ := len_in h
  have CL := hide CL
  have hq : ((l : Int) == 0) = b := by
    rw [hb]
    by_cases hn : n = 0
    · have : l = 0 := h3.2 hn
      subst this; simp [hn]
    · have : l ≠ 0 := fun e => hn (h3.1 e)
      simp [hn]; omega
  clear h h2 h3 hb
  go_enter Try.func39, Try.ntmps39
  go_wp2_with fail
  refine (unhide CL).mono ?_
  rintro e w' ⟨rfl, rfl⟩
  clear CL
  go_wp2
  go_ret
  exact ⟨rfl, rfl⟩

set_option maxHeartbeats 400000 in
theorem within_lim (z : Int) (most k : Nat) (w : World) (hk : (k : Int) = min (max z 0) (most : Int)) : Calls Try.prog 63 #[.int .i64 z, .int .i64 (most : Int)] w fun e w' => e = .returned (.int .i64 (k : Int)) ∧ w' = w := by
  have HK := hide hk
  clear hk
  go_enter Try.func63, Try.ntmps63
  go_wp2
  go_ret
  exact ⟨ret_int (unhide HK).symm, rfl⟩

/-- Parts: a row of rows in memory, each of which says a number. -/
structure Parts (w : World) (gp : Option Addr) (bp op : Nat) (vs : List Value) (ns : List Nat) : Prop where
  head : 0 < vs.length → gp = some ⟨bp, op, none⟩
  len : ns.length = vs.length
  cell : ∀ j, j < vs.length → w.cell? ⟨bp, op + j, none⟩ = some (vs.getD j undef)
  each : ∀ j, j < vs.length → InW w (vs.getD j undef) (ns.getD j 0)

theorem Parts.lt {w : World} {gp : Option Addr} {bp op : Nat} {vs : List Value} {ns : List Nat} (h : Parts w gp bp op vs ns) (h0 : 0 < vs.length) : bp < w.heap.size := World.block_lt_of_cell? _ _ (h.cell 0 h0)
theorem Parts.next {w w' : World} {gp : Option Addr} {bp op : Nat} {vs : List Value} {ns : List Nat} (h : Parts w gp bp op vs ns) (hb : Below w.heap.size w w') : Parts w' gp bp op vs ns :=
  ⟨h.head, h.len, fun j hj => (hb.cell (by exact h.lt (by omega))).trans (h.cell j hj), fun j hj => (h.each j hj).next hb⟩

/-- The sum of the first i parts, the j-th times B to the k j. -/
def jsum (k : Nat) (ns : List Nat) : Nat → Nat
  | 0 => 0
  | i + 1 => jsum k ns i + 18446744073709551616 ^ (k * i) * ns.getD i 0

/-- E is not nearer than the end of any part. -/
def Far (k : Nat) (ns : List Nat) (i E : Nat) : Prop := ∀ j, j < i → ns.getD j 0 ≠ 0 → ∀ us, WCan us → wval us = ns.getD j 0 → k * j + us.length ≤ E

theorem far_zero {k : Nat} {ns : List Nat} {i E : Nat} (h : Far k ns i E) (hz : ns.getD i 0 = 0) : Far k ns (i + 1) E := fun j hj hn us h1 h2 => by
  by_cases e : j = i
  · subst e; exact absurd hz hn
  · exact h j (by omega) hn us h1 h2
theorem far_more {k : Nat} {ns : List Nat} {i E l E' : Nat} (h : Far k ns i E) (hl : ∀ us, WCan us → wval us = ns.getD i 0 → us.length = l) (h1 : E ≤ E') (h2 : k * i + l ≤ E') : Far k ns (i + 1) E' := fun j hj hn us c1 c2 => by
  by_cases e : j = i
  · subst e; have := hl us c1 c2; omega
  · have := h j (by omega) hn us c1 c2; omega

theorem jsum_lt {k : Nat} {ns : List Nat} {i E : Nat} (hF : Far k ns i E) (hW : ∀ j, j < i → ∃ us, WCan us ∧ wval us = ns.getD j 0) : ∀ j, j ≤ i → jsum k ns j ≤ j * (18446744073709551616 ^ E - 1)
  | 0 => fun _ => by simp [jsum]
  | j + 1 => fun hj => by
    have ih := jsum_lt hF hW j (by omega)
    have ht : 18446744073709551616 ^ (k * j) * ns.getD j 0 ≤ 18446744073709551616 ^ E - 1 := by
      by_cases hn : ns.getD j 0 = 0
      · rw [hn]; simp
      · obtain ⟨us, h1, h2⟩ := hW j (by omega)
        have h3 := hF j (by omega) hn us h1 h2
        have h4 := wval_lt_pow h1.1
        rw [h2] at h4
        have h5 : 18446744073709551616 ^ (k * j) * (ns.getD j 0 + 1) ≤ 18446744073709551616 ^ (k * j) * 18446744073709551616 ^ us.length := Nat.mul_le_mul_left _ h4
        rw [← Nat.pow_add] at h5
        have h6 : 18446744073709551616 ^ (k * j + us.length) ≤ 18446744073709551616 ^ E := Nat.pow_le_pow_right (by omega) h3
        have h7 := wpow_pos (k * j)
        rw [Nat.mul_add, Nat.mul_one] at h5
        omega
    rw [jsum, Nat.add_mul, Nat.one_mul]
    omega
theorem jsum_room {k : Nat} {ns : List Nat} {i E : Nat} (hF : Far k ns i E) (hW : ∀ j, j < i → ∃ us, WCan us ∧ wval us = ns.getD j 0) (hi : i ≤ 65536) : ∀ j, j ≤ i → jsum k ns j < 18446744073709551616 ^ (E + 1) := fun j hj => by
  have h1 := jsum_lt hF hW j hj
  have h2 : j * (18446744073709551616 ^ E - 1) ≤ 65536 * (18446744073709551616 ^ E - 1) := Nat.mul_le_mul_right _ (by omega)
  have h3 := wpow_pos E
  rw [Nat.pow_succ]
  omega

theorem in_words {w : World} {v : Value} {n : Nat} (h : InW w v n) : ∃ us, WCan us ∧ wval us = n := by
  obtain ⟨ga, b, o, cap, xs, rfl, hr, hd, hv, hl⟩ := h
  exact ⟨nrm xs, nrm_wcan hd, by rw [nrm_wval]; exact hv⟩

end Go.Proofs.Ytofgbmfaehnmnaa

/- wordsAndPlaces and Shl of limb. -/
namespace Go.Proofs.Ytofgbmfaehnmnaa
open Go.RowKit

theorem ret_ii {a b c d : Int} (h : a = b) (h' : c = d) : Ending.returned (.tuple #[.int .i64 a, .int .i64 c]) = .returned (.tuple #[.int .i64 b, .int .i64 d]) := by rw [h, h']

set_option maxHeartbeats 400000 in
theorem wp_any (z : Int) (k s t : Nat) (w : World) (hk : (k : Int) = min (max z 0) 1048576) (hs : s = k / 64) (ht : t = k % 64) :
    Calls Try.prog 54 #[.int .i64 z] w fun e w' => e = .returned (.tuple #[.int .i64 (s : Int), .int .i64 (t : Int)]) ∧ w' = w := by
  have CW := hide (fun w => within_lim z 1048576 k w hk)
  have es : (k : Int) / 64 = (s : Int) := by omega
  have et : (k : Int) % 64 = (t : Int) := by omega
  have hkb : k ≤ 1048576 := by omega
  have ES := hide es
  have ET := hide et
  clear hk hs ht
  go_enter Try.func54, Try.ntmps54
  go_wp2_with fail
  refine (unhide CW _).mono ?_
  rintro e w1 ⟨rfl, rfl⟩
  go_wp2
  go_ret2
  exact ⟨ret_ii (by first | rfl | exact unhide ES) (by first | rfl | exact unhide ET), rfl⟩

/-- A word moved up by t places: what stays in it, what goes out. -/
theorem up_word {x t c : Nat} (hx : x < 18446744073709551616) (ht : t < 64) (hc : c < 2 ^ t) :
    ((x * 2 ^ t) % 18446744073709551616) ||| c = (x * 2 ^ t) % 18446744073709551616 + c ∧ (x * 2 ^ t) % 18446744073709551616 + c < 18446744073709551616 ∧ x / 2 ^ (64 - t) < 2 ^ t ∧
      (x * 2 ^ t) % 18446744073709551616 + 18446744073709551616 * (x / 2 ^ (64 - t)) = x * 2 ^ t := by
  have hp := pow_split t (by omega)
  have hpos : 0 < 2 ^ t := Nat.pow_pos (by omega)
  have hpos2 : 0 < 2 ^ (64 - t) := Nat.pow_pos (by omega)
  have e1 : x * 2 ^ t % 18446744073709551616 = x % 2 ^ (64 - t) * 2 ^ t := by
    rw [← hp, Nat.mul_mod_mul_right]
  have e2 : x / 2 ^ (64 - t) < 2 ^ t := by rw [Nat.div_lt_iff_lt_mul hpos2, Nat.mul_comm, hp]; exact hx
  have hm := Nat.mod_lt x hpos2
  have hd := Nat.div_add_mod x (2 ^ (64 - t))
  refine ⟨?_, ?_, e2, ?_⟩
  · rw [e1]; exact or_add _ _ _ hc
  · rw [e1]
    have h2 : (x % 2 ^ (64 - t) + 1) * 2 ^ t ≤ 2 ^ (64 - t) * 2 ^ t := Nat.mul_le_mul_right _ hm
    rw [Nat.add_mul, Nat.one_mul, hp] at h2
    omega
  · rw [e1, ← hp]
    have : x * 2 ^ t = (2 ^ (64 - t) * (x / 2 ^ (64 - t)) + x % 2 ^ (64 - t)) * 2 ^ t := by rw [hd]
    rw [this, Nat.add_mul, Nat.mul_right_comm]
    omega

/-- k words are moved up by s words and t places; c is carried. -/
def WShlAt (us zs : List Nat) (N s t k c : Nat) : Prop := zs.length = N ∧ WDig zs ∧ c < 2 ^ t ∧ (∀ j, s + k ≤ j → zs.getD j 0 = 0) ∧ wval zs + 18446744073709551616 ^ (s + k) * c = 18446744073709551616 ^ s * (2 ^ t * wval (us.take k))
theorem wshl_start (us : List Nat) (N s t : Nat) : WShlAt us (List.replicate N 0) N s t 0 0 := by
  refine ⟨by simp, (wzeros N).1, Nat.pow_pos (by omega), fun j _ => ?_, by rw [(wzeros N).2]; simp [wval]⟩
  simp only [List.getD_eq_getElem?_getD, List.getElem?_replicate]; split <;> rfl
theorem wshl_step {us zs : List Nat} {N s t k c x d c2 : Nat} (h : WShlAt us zs N s t k c) (hk : s + k < N) (hx : x = us.getD k 0) (hx64 : x < 18446744073709551616) (ht : t < 64) (hd : d = (x * 2 ^ t) % 18446744073709551616 + c) (hc2 : c2 = x / 2 ^ (64 - t)) :
    WShlAt us (zs.set (s + k) d) N s t (k + 1) c2 := by
  obtain ⟨h1, h2, h3, h4, h5⟩ := h
  obtain ⟨e1, e2, e3, e4⟩ := up_word hx64 ht h3
  refine ⟨by simpa using h1, wDig_set h2 (by omega) (by rw [hd]; exact e2), by rw [hc2]; exact e3, fun j hj => ?_, ?_⟩
  · rw [getD_set _ _ _ _ (by omega), if_neg (by omega)]; exact h4 j (by omega)
  · have hs := wval_set zs (s + k) d (by omega)
    rw [h4 _ (Nat.le_refl _), Nat.mul_zero, Nat.add_zero] at hs
    rw [hs, wval_take_succ, ← hx, ← Nat.add_assoc s k 1, Nat.pow_succ, Nat.mul_assoc]
    have e5 : 18446744073709551616 ^ (s + k) * d + 18446744073709551616 ^ (s + k) * (18446744073709551616 * c2) = 18446744073709551616 ^ (s + k) * c + 18446744073709551616 ^ (s + k) * (x * 2 ^ t) := by
      rw [← Nat.mul_add, ← Nat.mul_add, hd, hc2]
      congr 1
      omega
    have e6 : 18446744073709551616 ^ s * (2 ^ t * (wval (us.take k) + 18446744073709551616 ^ k * x)) = 18446744073709551616 ^ s * (2 ^ t * wval (us.take k)) + 18446744073709551616 ^ (s + k) * (x * 2 ^ t) := by
      rw [Nat.mul_add, Nat.mul_add, Nat.pow_add, Nat.mul_left_comm (2 ^ t), Nat.mul_comm (2 ^ t) x, Nat.mul_assoc]
    omega
theorem wshl_end {us zs : List Nat} {N s t k c : Nat} (h : WShlAt us zs N s t k c) (hk : us.length ≤ k) (hN : s + k < N) (ht : t < 64) : WDig (zs.set (s + k) c) ∧ wval (zs.set (s + k) c) = wval us * 2 ^ (64 * s + t) := by
  obtain ⟨h1, h2, h3, h4, h5⟩ := h
  have hc : c < 18446744073709551616 := Nat.lt_of_lt_of_le h3 (by have := Nat.pow_le_pow_right (n := 2) (by omega) (by omega : t ≤ 64); omega)
  have hs := wval_set zs (s + k) c (by omega)
  rw [h4 _ (Nat.le_refl _), Nat.mul_zero, Nat.add_zero] at hs
  refine ⟨wDig_set h2 (by omega) hc, ?_⟩
  rw [hs, h5, wval_take_ge _ _ hk, Nat.pow_add, Nat.pow_mul, ← Nat.mul_assoc, Nat.mul_comm (wval us)]

set_option maxRecDepth 100000 in
set_option maxHeartbeats 3200000 in
theorem shl_w (w : World) (u : Value) (z : Int) (m k : Nat) (hz : (k : Int) = min (max z 0) 1048576) (hu : InW w u m) :
    Calls Try.prog 46 #[u, .int .i64 z] w fun e w' => ∃ r, e = .returned r ∧ NewW w.heap.size w' r (m * 2 ^ k) ∧ Below w.heap.size w w' := by
  obtain ⟨ga, ba, oa, ca, us, rA, cA, vA, lA, CA⟩ := trim_in hu
  have CA := hide CA
  obtain ⟨la, hla⟩ : ∃ la, la = us.length := ⟨_, rfl⟩
  have hzero := wval_zero cA
  rw [vA] at hzero
  rw [← hla] at CA lA hzero
  obtain ⟨s, hs⟩ : ∃ s, s = k / 64 := ⟨_, rfl⟩
  obtain ⟨t, ht⟩ : ∃ t, t = k % 64 := ⟨_, rfl⟩
  have CW := hide (fun w => wp_any z k s t w hz hs ht)
  have hkb : k ≤ 1048576 := by omega
  have hsb : s ≤ 16384 := by omega
  have ht64 : t < 64 := by omega
  have hke : k = 64 * s + t := by omega
  have HKE := hide hke
  have HLA := hide hla
  have HVA := hide vA
  by_cases h0 : la = 0
  · have hm0 : m = 0 := hzero.1 h0
    subst hm0 h0
    clear hu hla hzero hs ht hke hz
    go_enter Try.func46, Try.ntmps46
    go_wp2_with fail
    refine (unhide CA).mono ?_
    rintro e w1 ⟨rfl, rfl⟩
    clear CA
    go_wp2
    go_ret
    exact ⟨_, rfl, by rw [Nat.zero_mul]; exact newW_nil _ _, Below.refl _ _⟩
  · have hnz : ((la : Int) == 0) = false := by rw [beq_eq_false_iff_ne]; omega
    obtain ⟨N, hN⟩ : ∃ N, N = s + la + 1 := ⟨_, rfl⟩
    have hmk := make_nat N N ((s : Int) + (la : Int) + 1) (by omega) rfl (by omega)
    have hNb : N ≤ 1073758209 := by omega
    have hNl : s + la + 1 ≤ N := by omega
    obtain ⟨t2, ht2⟩ : ∃ t2, t2 = 64 - t := ⟨_, rfl⟩
    have et2 : (64 : Int) - (t : Int) = (t2 : Int) := by omega
    have HT2 := hide ht2
    have hk0 : Blk (w.alloc (.cells (zlist N).toArray 72)) w.heap.size (List.replicate N 0) := heap_alloc_new w _
    have hb0 : Below w.heap.size w (w.alloc (.cells (zlist N).toArray 72)) := (Below.refl _ _).alloc (Nat.le_refl _) _
    have HK0 := hide hk0
    have HB0 := hide hb0
    clear hu hla hzero hs ht hke hz h0 hN ht2 hk0 hb0
    go_enter Try.func46, Try.ntmps46
    go_wp2_with fail
    refine (unhide CA).mono ?_
    rintro e w1 ⟨rfl, rfl⟩
    clear CA
    go_wp2_with fail
    refine (unhide CW _).mono ?_
    rintro e w2 ⟨rfl, rfl⟩
    clear CW
    go_wp2
    clear hmk
    go_loopw [8, 29] (fun c i wr => ∃ (q cy : Nat) (zs : List Nat), q ≤ la ∧ c = .int .u64 (cy : Int) ∧ i = .int .i64 (q : Int) ∧ cy < 18446744073709551616 ∧ zs.length = N ∧ Blk wr w2.heap.size zs ∧ Hid (WShlAt us zs N s t q cy) ∧ Below w2.heap.size w2 wr)
      (fun _ i _ => la - (intOf i).toNat)
    case atStart => exact ⟨0, 0, List.replicate N 0, Nat.zero_le _, rfl, rfl, by omega, by simp, unhide HK0, wshl_start us N s t, unhide HB0⟩
    case round =>
      obtain ⟨q, cy, zs, hq, rfl, rfl, hcy, hzl, hBlk, hAt, hnx⟩ := hrel
      clear HK0 HB0
      by_cases h1 : q < la
      · obtain rfl := rA.head (by rw [← unhide HLA]; omega)
        obtain ⟨x, hx⟩ : ∃ x : Nat, x = us.getD q 0 := ⟨_, rfl⟩
        have hx64 : x < 18446744073709551616 := by rw [hx]; exact cA.1 q
        have cx : wr.cell? ⟨ba, oa + q, none⟩ = some (.int .u64 (x : Int)) := by rw [hx]; exact (hnx.cell (by exact rA.lt (by rw [← unhide HLA]; omega))).trans (rA.cell q (by rw [← unhide HLA]; omega))
        have cr : wr.cell? ⟨w2.heap.size, s + q, none⟩ = some (.int .u64 (((zs.getD (s + q) 0 : Nat)) : Int)) := hBlk.cell (s + q) (by omega)
        have fr := hBlk.frozen (s + q)
        have hc3 := hAt.out.2.2.1
        obtain ⟨e1, e2, e3, e4⟩ := up_word hx64 ht64 hc3
        obtain ⟨l, hl⟩ : ∃ l, l = x * 2 ^ t % 18446744073709551616 := ⟨_, rfl⟩
        have el := shl_mod x t
        rw [← hl] at el e1 e2
        obtain ⟨d, hd⟩ : ∃ d, d = l + cy := ⟨_, rfl⟩
        have hl64 : l < 18446744073709551616 := by omega
        have eo := bits_or_u64_nat l cy hl64 hcy
        rw [e1, ← hd] at eo
        obtain ⟨c2, hc2⟩ : ∃ c2, c2 = x / 2 ^ t2 := ⟨_, rfl⟩
        have es2 := shr_eq x t2
        rw [← hc2] at es2
        have H2 := hide (wshl_step (d := d) (c2 := c2) hAt.out (by omega) hx hx64 ht64 (by rw [hd, hl]) (by rw [hc2, unhide HT2]))
        have hc64 : c2 < 18446744073709551616 := by rw [hc2]; exact Nat.lt_of_le_of_lt (Nat.div_le_self _ _) hx64
        clear hx hl hd hc2 e1 e2 e3 e4 hc3 hAt
        go_wp2
        exact ⟨⟨q + 1, c2, zs.set (s + q) d, by omega, rfl, by go_num, hc64, by simpa using hzl, hBlk.set (s + q) d, H2, hnx.setCell (Nat.le_refl _) _⟩, by simp [intOf]; omega⟩
      · obtain rfl : q = la := by omega
        have cr : wr.cell? ⟨w2.heap.size, s + q, none⟩ = some (.int .u64 (((zs.getD (s + q) 0 : Nat)) : Int)) := hBlk.cell (s + q) (by omega)
        have fr := hBlk.frozen (s + q)
        obtain ⟨hd, hv⟩ := wshl_end hAt.out (by rw [← unhide HLA]; omega) (by omega) ht64
        rw [unhide HVA, ← unhide HKE] at hv
        have k5 := hBlk.set (s + q) cy
        have HV := hide hv
        have HK5 := hide k5
        have HB5 := hide (hnx.setCell (p := ⟨w2.heap.size, s + q, none⟩) (Nat.le_refl _) (.int .u64 (cy : Int)))
        have HL5 : Hid ((zs.set (s + q) cy).length = N) := by show _ = _; simpa using hzl
        clear hv k5 hAt
        go_wp2_with fail
        refine (trim_blk (B := w2.heap.size) (unhide HL5) (by omega) (Nat.le_refl _) (unhide HK5) hd).mono ?_
        rintro e w6 ⟨r, rfl, hr, rfl⟩
        rw [unhide HV] at hr
        go_wp2
        go_ret
        exact ⟨r, rfl, hr, unhide HB5⟩

end Go.Proofs.Ytofgbmfaehnmnaa

/- DivWord of limb: by one word. -/
namespace Go.Proofs.Ytofgbmfaehnmnaa
open Go.RowKit

set_option maxRecDepth 100000 in
set_option maxHeartbeats 1600000 in
theorem norm_blk (w : World) (u : Value) (m : Nat) (hu : InW w u m) :
    Calls Try.prog 25 #[u] w fun e w' => ∃ us, WCan us ∧ wval us = m ∧ us.length ≤ 1073741824 ∧ e = .returned (.slice (some ⟨w.heap.size, 0, none⟩) us.length us.length) ∧ Blk w' w.heap.size us ∧ Below w.heap.size w w' := by
  obtain ⟨ga, ba, oa, ca, us, rA, cA, vA, lA, CA⟩ := trim_in hu
  have CA := hide CA
  obtain ⟨la, hla⟩ : ∃ la, la = us.length := ⟨_, rfl⟩
  rw [← hla] at CA lA
  have HLA := hide hla
  clear hu hla
  go_enter Try.func25, Try.ntmps25
  go_wp2_with fail
  refine (unhide CA).mono ?_
  rintro e w1 ⟨rfl, rfl⟩
  clear CA
  go_wp2_with fail
  refine (copyOf_any _ ga ba oa ca la us (unhide HLA).symm (by omega) rA).mono ?_
  rintro e w3 ⟨rfl, k3, b3⟩
  go_wp2
  go_ret
  exact ⟨us, cA, vA, by rw [← unhide HLA]; exact lA, by rw [← unhide HLA]; exact ret_slice rfl, k3, b3⟩

/-- From place k on the words are divided; r is left. -/
def WDivAt (us zs : List Nat) (y k r : Nat) : Prop := zs.length = us.length ∧ WDig zs ∧ r < y ∧ (∀ j, j < k → zs.getD j 0 = us.getD j 0) ∧ wval (us.drop k) = wval (zs.drop k) * y + r

theorem drop_cons (xs : List Nat) (j : Nat) (h : j < xs.length) : xs.drop j = xs.getD j 0 :: xs.drop (j + 1) := by
  rw [List.drop_eq_getElem_cons h, getD_lt h]
theorem wdiv_start {us : List Nat} {y : Nat} (h : WDig us) (hy : 0 < y) : WDivAt us us y us.length 0 := ⟨rfl, h, hy, fun _ _ => rfl, by simp [wval]⟩
theorem wdiv_step {us zs : List Nat} {y j r c Q R : Nat} (h : WDivAt us zs y (j + 1) r) (hj : j < us.length) (hy : y < 18446744073709551616) (hc : c = zs.getD j 0) (hQ : Q = (18446744073709551616 * r + c) / y) (hR : R = (18446744073709551616 * r + c) % y) :
    WDivAt us (zs.set j Q) y j R ∧ Q < 18446744073709551616 := by
  obtain ⟨h1, h2, h3, h4, h5⟩ := h
  have hc64 : c < 18446744073709551616 := by rw [hc]; exact h2 j
  have hQ64 : Q < 18446744073709551616 := by
    rw [hQ, Nat.div_lt_iff_lt_mul (by omega)]
    have : 18446744073709551616 * (r + 1) ≤ 18446744073709551616 * y := Nat.mul_le_mul_left _ h3
    omega
  refine ⟨⟨by simpa using h1, wDig_set h2 (by omega) hQ64, by rw [hR]; exact Nat.mod_lt _ (by omega), fun i hi => ?_, ?_⟩, hQ64⟩
  · rw [getD_set _ _ _ _ (by omega), if_neg (by omega)]
    exact h4 i (by omega)
  · have e1 : (zs.set j Q).drop j = Q :: zs.drop (j + 1) := by
      rw [drop_cons _ j (by simpa using (by omega : j < zs.length)), getD_set _ _ _ _ (by omega), if_pos rfl]
      congr 1
      rw [List.drop_set, if_pos (by omega)]
    have e2 : us.drop j = c :: us.drop (j + 1) := by rw [drop_cons us j hj, hc, h4 j (by omega)]
    have e3 : Q * y + R = 18446744073709551616 * r + c := by rw [hQ, hR]; exact Nat.div_add_mod' _ _
    rw [e1, e2]
    simp only [wval]
    rw [h5, Nat.add_mul, Nat.mul_assoc]
    generalize wval (zs.drop (j + 1)) * y = T at *
    generalize Q * y = U at *
    omega
theorem wdiv_end {us zs : List Nat} {y r : Nat} (h : WDivAt us zs y 0 r) : wval zs = wval us / y ∧ r = wval us % y := by
  obtain ⟨_, _, h3, _, h5⟩ := h
  rw [List.drop_zero, List.drop_zero] at h5
  rw [h5, Nat.mul_comm]
  constructor
  · rw [Nat.mul_add_div (by omega), Nat.div_eq_of_lt h3, Nat.add_zero]
  · rw [Nat.mul_add_mod, Nat.mod_eq_of_lt h3]

set_option maxHeartbeats 800000 in
theorem divWord_no (w : World) (u : Value) : Calls Try.prog 27 #[u, .int .u64 0] w fun e w' => e = .returned (.tuple #[.slice none 0 0, .int .u64 0, .int .i64 2]) ∧ w' = w := by
  go_enter Try.func27, Try.ntmps27
  go_wp2
  go_ret3
  exact ⟨rfl, rfl⟩

set_option maxRecDepth 100000 in
set_option maxHeartbeats 3200000 in
theorem divWord_w (w : World) (u : Value) (m y : Nat) (hy0 : 0 < y) (hy : y < 18446744073709551616) (hu : InW w u m) :
    Calls Try.prog 27 #[u, .int .u64 (y : Int)] w fun e w' => ∃ q, e = .returned (.tuple #[q, .int .u64 ((m % y : Nat) : Int), .int .i64 0]) ∧ NewW w.heap.size w' q (m / y) ∧ Below w.heap.size w w' := by
  obtain ⟨R, hR⟩ : ∃ R, R = m % y := ⟨_, rfl⟩
  obtain ⟨Q, hQ⟩ : ∃ Q, Q = m / y := ⟨_, rfl⟩
  rw [← hR, ← hQ]
  have HR := hide hR
  have HQ := hide hQ
  have hyz : ((y : Int) == 0) = false := by rw [beq_eq_false_iff_ne]; omega
  clear hR hQ
  go_enter Try.func27, Try.ntmps27
  go_wp2_with fail
  refine (norm_blk _ _ m hu).mono ?_
  rintro e w1 ⟨us, cU, vU, lU, rfl, k1, b1⟩
  obtain ⟨la, hla⟩ : ∃ la, la = us.length := ⟨_, rfl⟩
  rw [← hla] at lU ⊢
  have HLA := hide hla
  have HVU := hide vU
  clear hla hu vU
  go_wp2
  go_loopw [8, 9] (fun rv i wr => ∃ (k r : Nat) (zs : List Nat), k ≤ la ∧ rv = .int .u64 (r : Int) ∧ i = .int .i64 ((k : Int) - 1) ∧ zs.length = la ∧ r < y ∧ Blk wr w.heap.size zs ∧ Hid (WDivAt us zs y k r) ∧ Below w.heap.size w wr)
    (fun _ i _ => (intOf i + 1).toNat)
  case atStart => exact ⟨la, 0, us, Nat.le_refl _, rfl, rfl, (unhide HLA).symm, hy0, k1, by rw [unhide HLA]; exact wdiv_start cU.1 hy0, b1⟩
  case round =>
    obtain ⟨k, r, zs, hk, rfl, rfl, hzl, hr, hBlk, hAt, hnx⟩ := hrel
    by_cases h0 : k = 0
    · subst h0
      obtain ⟨e1, e2⟩ := wdiv_end hAt.out
      rw [unhide HVU] at e1 e2
      have hq : wval zs = Q := by rw [unhide HQ]; exact e1
      have hr2 : (r : Int) = (R : Int) := by rw [unhide HR, e2]
      have hd := hAt.out.2.1
      have HQ2 := hide hq
      have HR2 := hide hr2
      clear e1 e2 hq hr2 hAt
      go_wp2_with fail
      refine (trim_blk (B := w.heap.size) hzl (by omega) (Nat.le_refl _) hBlk hd).mono ?_
      rintro e w6 ⟨q, rfl, hq, rfl⟩
      rw [unhide HQ2] at hq
      go_wp2
      go_ret3
      exact ⟨q, by rw [← unhide HR2]; rfl, hq, hnx⟩
    · obtain ⟨j, rfl⟩ : ∃ j, k = j + 1 := ⟨k - 1, by omega⟩
      have ej : ((j + 1 : Nat) : Int) - 1 = (j : Int) := by omega
      rw [ej]
      obtain ⟨c, hc⟩ : ∃ c : Nat, c = zs.getD j 0 := ⟨_, rfl⟩
      have cr : wr.cell? ⟨w.heap.size, j, none⟩ = some (.int .u64 (c : Int)) := by rw [hc]; exact hBlk.cell j (by omega)
      have hc64 : c < 18446744073709551616 := by rw [hc]; exact hAt.out.2.1 j
      obtain ⟨Qd, hQd⟩ : ∃ Qd, Qd = (18446744073709551616 * r + c) / y := ⟨_, rfl⟩
      obtain ⟨Rd, hRd⟩ : ∃ Rd, Rd = (18446744073709551616 * r + c) % y := ⟨_, rfl⟩
      obtain ⟨H2, hq64⟩ := wdiv_step hAt.out (by rw [← unhide HLA]; omega) hy hc hQd hRd
      have hR2 := H2.2.2.1
      have H2 := hide H2
      have CD := hide (fun w => word_div r c y Qd Rd w hr hc64 hy hQd hRd)
      clear hc hQd hRd hAt
      go_wp2_with fail
      refine (unhide CD _).mono ?_
      rintro e w5 ⟨rfl, b5⟩
      have cr := hBlk.next b5
      have cr2 := cr.cell j (by omega)
      have fr := cr.frozen j
      have hnx := hnx.trans (b5.mono hnx.size)
      clear b5
      go_wp2
      exact ⟨⟨j, Rd, zs.set j Qd, by omega, rfl, by go_num, by simpa using hzl, hR2, cr.set j Qd, H2, hnx.setCell (Nat.le_refl _) _⟩, by simp [intOf]⟩

end Go.Proofs.Ytofgbmfaehnmnaa

/- Shr of limb. -/
namespace Go.Proofs.Ytofgbmfaehnmnaa
open Go.RowKit

theorem Rep.dropS {w : World} {b o cap s : Nat} {xs : List Nat} (h : Rep w (some ⟨b, o, none⟩) b o cap xs) (hs : s ≤ xs.length) : Rep w (some ⟨b, o + s, none⟩) b (o + s) (cap - s) (xs.drop s) := by
  have hl : (xs.drop s).length = xs.length - s := by simp
  refine ⟨fun _ => rfl, by have := h.room; omega, fun j hj => ?_⟩
  have e : (xs.drop s).getD j 0 = xs.getD (s + j) 0 := by simp [List.getD_eq_getElem?_getD]
  rw [e, Nat.add_assoc]
  exact h.cell (s + j) (by omega)

/-- A word moved down by t places: r comes in from above. -/
theorem down_word {c r t : Nat} (hc : c < 18446744073709551616) (ht : t < 64) (hr : r < 2 ^ t) :
    (c / 2 ^ t) ||| (r * 2 ^ (64 - t)) = (18446744073709551616 * r + c) / 2 ^ t ∧ r * 2 ^ (64 - t) < 18446744073709551616 ∧ c * 2 ^ (64 - t) % 18446744073709551616 = ((18446744073709551616 * r + c) % 2 ^ t) * 2 ^ (64 - t) := by
  have hp := pow_split t (by omega)
  have hpos : 0 < 2 ^ t := Nat.pow_pos (by omega)
  have h1 : c / 2 ^ t < 2 ^ (64 - t) := by rw [Nat.div_lt_iff_lt_mul hpos, hp]; exact hc
  have h2 : (r + 1) * 2 ^ (64 - t) ≤ 2 ^ t * 2 ^ (64 - t) := Nat.mul_le_mul_right _ hr
  have e0 : 18446744073709551616 * r = 2 ^ t * (r * 2 ^ (64 - t)) := by
    rw [← hp, Nat.mul_comm (2 ^ (64 - t)), Nat.mul_assoc, Nat.mul_comm r]
  have hpos2 : 0 < 2 ^ (64 - t) := Nat.pow_pos (by omega)
  rw [Nat.add_mul, Nat.one_mul, Nat.mul_comm (2 ^ t), hp] at h2
  refine ⟨?_, by omega, ?_⟩
  · rw [Nat.or_comm, or_add r (c / 2 ^ t) (64 - t) h1, e0, Nat.mul_add_div hpos]
  · rw [e0, Nat.mul_add_mod, ← hp, Nat.mul_comm (2 ^ (64 - t)) (2 ^ t), Nat.mul_mod_mul_right]

theorem wval_shr {xs : List Nat} (h : WDig xs) (s t : Nat) : wval (xs.drop s) / 2 ^ t = wval xs / 2 ^ (64 * s + t) := by
  rw [Nat.pow_add, ← Nat.div_div_eq_div_mul, Nat.pow_mul]
  congr 1
  have hv := wval_drop xs s
  have hl := wval_lt h s
  rw [hv, show (2 : Nat) ^ 64 = 18446744073709551616 from rfl, Nat.add_mul_div_left _ _ (wpow_pos s), Nat.div_eq_of_lt hl, Nat.zero_add]

set_option maxRecDepth 100000 in
set_option maxHeartbeats 3200000 in
theorem shr_w (w : World) (u : Value) (z : Int) (m k : Nat) (hz : (k : Int) = min (max z 0) 1048576) (hu : InW w u m) :
    Calls Try.prog 49 #[u, .int .i64 z] w fun e w' => ∃ r, e = .returned r ∧ NewW w.heap.size w' r (m / 2 ^ k) ∧ Below w.heap.size w w' := by
  obtain ⟨ga, ba, oa, ca, xs, rfl, rA, dA, vA, lA⟩ := hu
  obtain ⟨la, hla⟩ : ∃ la, la = xs.length := ⟨_, rfl⟩
  have hroom := rA.room
  rw [← hla] at lA hroom ⊢
  obtain ⟨s, hs⟩ : ∃ s, s = k / 64 := ⟨_, rfl⟩
  obtain ⟨t, ht⟩ : ∃ t, t = k % 64 := ⟨_, rfl⟩
  have CW := hide (fun w => wp_any z k s t w hz hs ht)
  have ht64 : t < 64 := by omega
  have hke : k = 64 * s + t := by omega
  have hval : wval (xs.drop s) / 2 ^ t = m / 2 ^ k := by rw [wval_shr dA, ← hke, vA]
  have HVL := hide hval
  have HLA := hide hla
  by_cases h0 : la ≤ s
  · have h0i : (la : Int) ≤ (s : Int) := by omega
    have hz0 : Hid (m / 2 ^ k = 0) := by
      show _ = _
      rw [← hval, List.drop_eq_nil_of_le (by omega), show wval [] = 0 from rfl, Nat.zero_div]
    clear hla hs ht hke hz hval vA
    go_enter Try.func49, Try.ntmps49
    go_wp2_with fail
    refine (unhide CW _).mono ?_
    rintro e w2 ⟨rfl, rfl⟩
    clear CW
    go_wp2
    go_ret
    exact ⟨_, rfl, by rw [unhide hz0]; exact newW_nil _ _, Below.refl _ _⟩
  · have h0i : ¬ (la : Int) ≤ (s : Int) := by omega
    obtain rfl := rA.head (by omega)
    obtain ⟨M, hM⟩ : ∃ M, la = s + M := ⟨la - s, by omega⟩
    have hMs : la - s = M := by omega
    have hcs : ¬ ca = s := by omega
    have hsi : 0 ≤ (s : Int) ∧ (s : Int) ≤ (la : Int) := by omega
    obtain ⟨cc, hcc⟩ : ∃ cc, cc = ca - s := ⟨_, rfl⟩
    have rD := rA.dropS (s := s) (by omega)
    rw [← hcc] at rD
    have hcc2 : ca - s = cc := hcc.symm
    have dD := wDig_drop dA s
    have hdl : (xs.drop s).length = M := by simp; omega
    obtain ⟨t2, ht2⟩ : ∃ t2, t2 = 64 - t := ⟨_, rfl⟩
    have et2 : (64 : Int) - (t : Int) = (t2 : Int) := by omega
    have HT2 := hide ht2
    have hp0 : 0 < 2 ^ t := Nat.pow_pos (by omega)
    have hp64 : 2 ^ t < 18446744073709551616 := by
      have := Nat.pow_le_pow_right (n := 2) (by omega) (by omega : t ≤ 63)
      omega
    have HP64 := hide hp64
    have hMb : M ≤ 1073741824 := by omega
    clear hla hs ht hke hz hval vA ht2 hM hcc hp64 rA hroom dA
    generalize xs.drop s = os at *
    have HDL := hide hdl
    clear hdl
    go_enter Try.func49, Try.ntmps49
    go_wp2_with fail
    refine (unhide CW _).mono ?_
    rintro e w2 ⟨rfl, rfl⟩
    clear CW
    go_wp2_with fail
    refine (copyOf_any _ _ ba (oa + s) cc M os (unhide HDL) (by omega) rD).mono ?_
    rintro e w3 ⟨rfl, k3, b3⟩
    go_wp2
    go_loopw [8, 9] (fun c i wr => ∃ (q r cy : Nat) (zs : List Nat), q ≤ M ∧ c = .int .u64 (cy : Int) ∧ i = .int .i64 ((q : Int) - 1) ∧ cy < 18446744073709551616 ∧ zs.length = M ∧ Blk wr w2.heap.size zs ∧ Hid (cy = r * 2 ^ t2) ∧ Hid (WDivAt os zs (2 ^ t) q r) ∧ Below w2.heap.size w2 wr)
      (fun _ i _ => (intOf i + 1).toNat)
    case atStart => exact ⟨M, 0, 0, os, Nat.le_refl _, rfl, rfl, by omega, unhide HDL, k3, by show 0 = 0 * _; rw [Nat.zero_mul], by rw [← unhide HDL]; exact wdiv_start dD hp0, b3⟩
    case round =>
      obtain ⟨q, r, cy, zs, hq, rfl, rfl, hcy, hzl, hBlk, hCy, hAt, hnx⟩ := hrel
      by_cases h1 : q = 0
      · subst h1
        obtain ⟨e1, _⟩ := wdiv_end hAt.out
        rw [unhide HVL] at e1
        have hd := hAt.out.2.1
        have HE := hide e1
        clear e1 hAt hCy
        go_wp2_with fail
        refine (trim_blk (B := w2.heap.size) hzl (by omega) (Nat.le_refl _) hBlk hd).mono ?_
        rintro e w6 ⟨v, rfl, hv, rfl⟩
        rw [unhide HE] at hv
        go_wp2
        go_ret
        exact ⟨v, rfl, hv, hnx⟩
      · obtain ⟨j, rfl⟩ : ∃ j, q = j + 1 := ⟨q - 1, by omega⟩
        have ej : ((j + 1 : Nat) : Int) - 1 = (j : Int) := by omega
        rw [ej]
        obtain ⟨c, hc⟩ : ∃ c : Nat, c = zs.getD j 0 := ⟨_, rfl⟩
        have cr : wr.cell? ⟨w2.heap.size, j, none⟩ = some (.int .u64 (c : Int)) := by rw [hc]; exact hBlk.cell j (by omega)
        have fr := hBlk.frozen j
        have hc64 : c < 18446744073709551616 := by rw [hc]; exact hAt.out.2.1 j
        obtain ⟨Q, hQ⟩ : ∃ Q, Q = (18446744073709551616 * r + c) / 2 ^ t := ⟨_, rfl⟩
        obtain ⟨R, hR⟩ : ∃ R, R = (18446744073709551616 * r + c) % 2 ^ t := ⟨_, rfl⟩
        obtain ⟨H2, hq64⟩ := wdiv_step hAt.out (by rw [unhide HDL]; omega) (unhide HP64) hc hQ hR
        obtain ⟨f1, f2, f3⟩ := down_word hc64 ht64 hAt.out.2.2.1
        rw [← unhide HT2, ← hCy.out, ← hQ] at f1
        rw [← unhide HT2, ← hR] at f3
        have H2 := hide H2
        obtain ⟨a, ha⟩ : ∃ a, a = c / 2 ^ t := ⟨_, rfl⟩
        have es := shr_eq c t
        rw [← ha] at es f1
        have ha64 : a < 18446744073709551616 := by rw [ha]; exact Nat.lt_of_le_of_lt (Nat.div_le_self _ _) hc64
        have eo := bits_or_u64_nat a cy ha64 hcy
        rw [f1] at eo
        have el := shl_mod c t2
        obtain ⟨c2, hc2⟩ : ∃ c2, c2 = c * 2 ^ t2 % 18446744073709551616 := ⟨_, rfl⟩
        rw [← hc2] at el f3
        have hc2b : c2 < 18446744073709551616 := by rw [hc2]; exact Nat.mod_lt _ (by omega)
        have HF3 := hide f3
        clear hc hQ hR f1 f2 f3 ha hc2 hAt hCy
        go_wp2
        exact ⟨⟨j, R, c2, zs.set j Q, by omega, rfl, by go_num, hc2b, by simpa using hzl, hBlk.set j Q, HF3, H2, hnx.setCell (Nat.le_refl _) _⟩, by simp [intOf]⟩

end Go.Proofs.Ytofgbmfaehnmnaa
