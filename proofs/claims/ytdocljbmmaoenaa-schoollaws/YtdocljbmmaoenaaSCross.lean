/- crossProducts and squares of school. -/
import Derived.Test.YtdocljbmmaoenaaSAdd
namespace Go.Proofs.Ytdocljbmmaoenaa
open Go.RowKit

theorem blk_noughts (w : World) (n : Nat) : Blk (w.alloc (.cells (zlist n).toArray 55)) w.heap.size (List.replicate n 0) := heap_alloc_new w _

theorem Rep.drop {w : World} {ga : Option Addr} {b o cap : Nat} {xs : List Nat} (h : Rep w ga b o cap xs) (s : Nat) (hs : s ≤ xs.length) : Rep w (some ⟨b, o + s, none⟩) b (o + s) (cap - s) (xs.drop s) :=
  ⟨fun _ => rfl, by have := h.room; simp; omega, fun j hj => by
    have hj' : s + j < xs.length := by simp at hj; omega
    have := h.cell (s + j) hj'
    rw [Nat.add_assoc, this]
    simp [List.getD_eq_getElem?_getD]⟩

set_option maxRecDepth 100000 in
set_option maxHeartbeats 3200000 in
theorem cross_any (w : World) (ga : Option Addr) (b o cap n : Nat) (xs : List Nat) (hl : xs.length = n) (hn : n ≤ 268435456) (hR : Rep w ga b o cap xs) (dx : WDig xs) :
    Calls Try.prog 30 #[.slice ga n cap] w fun e w' => ∃ zs, e = .returned (.slice (some ⟨w.heap.size, 0, none⟩) (2 * n) (2 * n)) ∧ CRow xs zs n n ∧ Blk w' w.heap.size zs ∧ Below w.heap.size w w' := by
  have hst := hide (c_start xs n)
  have hk0 := hide (blk_noughts w (2 * n))
  obtain ⟨N, hN⟩ : ∃ N, N = 2 * n := ⟨_, rfl⟩
  have hN' : 2 * (n : Int) = (N : Int) := by omega
  rw [← hN] at hst hk0 ⊢
  have hmk := make_nat N N (2 * (n : Int)) hN' rfl (by omega)
  have HB0 := hide ((Below.refl w.heap.size w).alloc (Nat.le_refl _) (.cells (zlist N).toArray 55))
  have hcap := hR.room
  rw [hl] at hcap
  have hn2 : 2 * n ≤ 536870912 := by omega
  have HN := hide hN
  clear hN hN' hn
  go_enter Try.func30, Try.ntmps30
  go_wp2
  go_loopw [12] (fun i wr => ∃ (k : Nat) (zs : List Nat), k ≤ n ∧ i = .int .i64 (k : Int) ∧ Blk wr w.heap.size zs ∧ Hid (CRow xs zs n k) ∧ Below w.heap.size w wr)
    (fun i _ => n - (intOf i).toNat)
  case atStart => exact ⟨0, _, Nat.zero_le _, rfl, unhide hk0, hst, unhide HB0⟩
  case round =>
    obtain ⟨k, z0, hk, rfl, hBlk, hAt, hnx⟩ := hrel
    have hzl : z0.length = 2 * n := hAt.out.1
    by_cases h1 : k < n
    · obtain rfl := hR.head (by omega)
      obtain ⟨y, hy⟩ : ∃ y : Nat, y = xs.getD k 0 := ⟨_, rfl⟩
      have hy64 : y < 18446744073709551616 := by rw [hy]; exact dx k
      have hRw := hR.next hnx
      have cy : wr.cell? ⟨b, o + k, none⟩ = some (.int .u64 (y : Int)) := by rw [hy]; exact hRw.cell k (by omega)
      obtain ⟨p0, hp0⟩ : ∃ p0, p0 = 2 * k := ⟨_, rfl⟩
      obtain ⟨p, hp⟩ : ∃ p, p = 2 * k + 1 := ⟨_, rfl⟩
      obtain ⟨s, hs⟩ : ∃ s, s = k + 1 := ⟨_, rfl⟩
      obtain ⟨M, hM⟩ : ∃ M, N = p + M := ⟨N - p, by have := unhide HN; omega⟩
      obtain ⟨l, hlb⟩ : ∃ l, l = n - (k + 1) := ⟨_, rfl⟩
      obtain ⟨cc, hcc⟩ : ∃ cc, cc = cap - s := ⟨_, rfl⟩
      have hRd : Rep w (some ⟨b, o + s, none⟩) b (o + s) cc (xs.drop s) := by rw [hcc]; exact hR.drop s (by omega)
      have hld : (xs.drop s).length = l := by simp; omega
      have hne : 0 < (xs.drop s).length → b ≠ w.heap.size := fun h => by have := hR.lt (by omega); omega
      have CA := hide (fun gb cx W (hB : Blk W w.heap.size z0) (hr : Rep W gb b (o + s) cx (xs.drop s)) => addTimes_any W w.heap.size p M M b (o + s) cx l y gb z0 (xs.drop s) (by rw [hzl, ← unhide HN, hM]) hld (by have := unhide HN; omega) (by have := unhide HN; omega) hy64 hB hAt.out.2.1 hr (wDig_drop dx s) hne)
      have HRD := hide hRd
      have HLD := hide hld
      have e1 : 2 * (k : Int) = (p0 : Int) := by omega
      have e2 : (p0 : Int) + 1 = (p : Int) := by omega
      have e3 : (k : Int) + 1 = (s : Int) := by omega
      have hw0 : IntKind.i64.wrap (p0 : Int) = (p0 : Int) := by rw [IntKind.wrap_i64]; omega
      have hw1 : IntKind.i64.wrap (p : Int) = (p : Int) := by rw [IntKind.wrap_i64]; omega
      have hw2 : IntKind.i64.wrap (s : Int) = (s : Int) := by rw [IntKind.wrap_i64]; omega
      have i1 : 0 ≤ (p : Int) ∧ (p : Int) ≤ (N : Int) := by have := unhide HN; omega
      have i2 : 0 ≤ (s : Int) ∧ (s : Int) ≤ (n : Int) := by omega
      have i3 : p ≤ N := by omega
      have i4 : N - p = M := by omega
      have i5 : ¬ N = p := by have := unhide HN; omega
      have i6 : s ≤ n := by omega
      have i7 : n - s = l := by omega
      have i8 : cap - s = cc := by omega
      obtain ⟨t, ht⟩ : ∃ t, t = k + n := ⟨_, rfl⟩
      have e4 : (k : Int) + (n : Int) = (t : Int) := by omega
      have hw3 : IntKind.i64.wrap (t : Int) = (t : Int) := by rw [IntKind.wrap_i64]; omega
      have i9 : 0 ≤ (t : Int) ∧ (t : Int) < (N : Int) := by have := unhide HN; omega
      have i10 : t < N := by omega
      have hzN : z0.length = N := by rw [hzl]; exact (unhide HN).symm
      have HZN := hide hzN
      have HT := hide ht
      have HM := hide hM
      have HY := hide hy
      have HS := hide hs
      have HP := hide hp
      have HLB := hide hlb
      clear hzN hzl ht hy hp0 hp hs hM hlb hcc hne hld hRd hmk hk0 hst HB0 hRw
      have HNIL : Hid (cap = s → ∀ W gb cx, Rep W gb b (o + s) cx (xs.drop s)) := fun h W gb cx => by rw [List.drop_eq_nil_of_le (by omega)]; exact Rep.nil _ _ _ _ _
      have HC : Hid (∀ c zs, SAt z0 zs (xs.drop s) y p l c → CRow xs (zs.set t c) n s) := fun c zs h => by
        have hh := HS.out; have hh2 := HP.out; have hh3 := HLB.out; have hh4 := HT.out
        subst hh hh2 hh3 hh4
        exact c_step hAt.out h HY.out hl h1
      have hsz := hnx.size
      by_cases hcs : cap = s
      · have HNIL2 := hide (HNIL.out hcs)
        clear i8 HNIL
        obtain rfl := hcs.symm
        go_wp2
        go_region_with (go_at_call 25; refine (unhide CA _ _ _ ?_ ?_).mono ?_; exact hBlk; exact unhide HNIL2 _ _ _; rintro e w4 ⟨c, zs, rfl, hS, k4, g4⟩; have c4 := k4.cell t (by rw [hS.1, unhide HZN]; omega); have f4 := k4.frozen t; have hS := hide hS)
        go_wp2
        go_roundw
        case rel => exact ⟨s, zs.set t c, by omega, rfl, k4.set t c, unhide HC _ _ hS.out, (below_grown hnx.drew g4 (Nat.le_refl _) hsz).setCell (Nat.le_refl _) _⟩
        case measure => simp [intOf]; omega
      · go_wp2
        go_region_with (go_at_call 25; refine (unhide CA _ _ _ ?_ ?_).mono ?_; exact hBlk; exact (unhide HRD).next hnx.drew; rintro e w4 ⟨c, zs, rfl, hS, k4, g4⟩; have c4 := k4.cell t (by rw [hS.1, unhide HZN]; omega); have f4 := k4.frozen t; have hS := hide hS)
        go_wp2
        exact ⟨⟨s, zs.set t c, by omega, rfl, k4.set t c, unhide HC _ _ hS.out, (below_grown hnx.drew g4 (Nat.le_refl _) hsz).setCell (Nat.le_refl _) _⟩, by simp [intOf]; omega⟩
    · obtain rfl : k = n := by omega
      go_wp2
      go_ret
      exact ⟨z0, rfl, hAt.out, hBlk, hnx⟩

end Go.Proofs.Ytdocljbmmaoenaa
