/- From: words become digits of 32 bits. -/
import Derived.Test.YtpifgkhgnilpdaaNorm
namespace Go.Proofs.Ytpifgkhgnilpdaa
open Go.RowKit

/-- The digits of words. -/
def wdig : List Nat → List Nat
  | [] => []
  | w :: ws => w % 4294967296 :: w / 4294967296 :: wdig ws
/-- The number of words, the lowest first. -/
def wval : List Nat → Nat
  | [] => 0
  | w :: ws => w + 18446744073709551616 * wval ws
theorem wdig_val : ∀ ws : List Nat, val (wdig ws) = wval ws
  | [] => rfl
  | w :: ws => by simp only [wdig, val, wval, wdig_val ws]; omega
theorem wdig_length : ∀ ws : List Nat, (wdig ws).length = 2 * ws.length
  | [] => rfl
  | w :: ws => by simp only [wdig, List.length_cons, wdig_length ws]; omega
theorem wdig_dig : ∀ ws : List Nat, (∀ x ∈ ws, x < 18446744073709551616) → Dig (wdig ws)
  | [] => fun _ => dig_nil
  | w :: ws => fun h => by
    have ih := wdig_dig ws (fun x hx => h x (List.mem_cons_of_mem _ hx))
    have hw := h w List.mem_cons_self
    intro j
    match j with
    | 0 => simp only [wdig, List.getD_cons_zero]; omega
    | 1 => simp only [wdig, List.getD_cons_succ, List.getD_cons_zero]; omega
    | j + 2 => simp only [wdig, List.getD_cons_succ]; exact ih j
theorem wdig_snoc : ∀ (ws : List Nat) (w : Nat), wdig (ws ++ [w]) = wdig ws ++ [w % 4294967296, w / 4294967296]
  | [], _ => rfl
  | v :: ws, w => by simp only [List.cons_append, wdig, wdig_snoc ws w]

theorem Try.infoU : (Try.prog.info? 22).map (fun i => (i.zero, i.size, i.bytes)) = some (some (.int .u64 0), 1, 8) := by kernel_rfl

theorem tmod_dig (x : Nat) : (x : Int).tmod 4294967296 = ((x % 4294967296 : Nat) : Int) := by
  rw [Int.tmod_eq_emod_of_nonneg (by omega)]; omega
theorem quo_dig (x : Nat) (h : x < 18446744073709551616) : IntKind.u64.wrap ((x : Int) / 4294967296) = ((x / 4294967296 : Nat) : Int) := by
  rw [IntKind.wrap_u64]; omega

theorem from_step {w1 : World} {B t g cap k x : Nat} {ws : List Nat} (hk : k < ws.length) (hx : x = ws.getD k 0) (h : w1.ownsRow B t 1 (.slice (some ⟨g, 0, none⟩) (2 * k + 2) cap) (2 * k + 2) (cellsOf (wdig (ws.take k)) ++ cellsOf [x % 4294967296, x / 4294967296])) :
    w1.ownsRow B t 1 (.slice (some ⟨g, 0, none⟩) (2 * (k + 1)) cap) (2 * (k + 1)) (cellsOf (wdig (ws.take (k + 1)))) := by
  rw [take_snoc ws k hk, wdig_snoc, ← hx]
  simpa [Nat.mul_succ] using h

set_option maxHeartbeats 800000 in
theorem from_any (w : World) (ga : Option Addr) (b o cap : Nat) (ws : List Nat) (hn : ws.length ≤ 274877906944) (hR : Rep w ga b o cap ws) (hw : ∀ x ∈ ws, x < 18446744073709551616) :
    Calls Try.prog 18 #[.slice ga ws.length cap] w fun e w' => ∃ v, e = .returned v ∧ IsN w' v (wval ws) ∧ Below w.heap.size w w' := by
  obtain ⟨i0, hi, hz0, hz1, hz2⟩ := info_parts Try.infoU
  go_enter Try.func18, Try.ntmps18
  go_wp2_with (at_make; refine wpList_make_own _ rfl _ _ 24 rfl w.heap.size 22 i0 (.int .u64 0) 1 Try.underlying24 hi hz0 hz1 _ _ _ (2 * ws.length) rfl rfl (by omega) ?b2 ?b3 (Nat.le_refl _) ?_)
  case b2 => rw [hz2]; omega
  case b3 => unfold maxLen; omega
  intro w0 hown0 hgrow0
  go_wp2
  go_loopw [3, 4] (fun out i wr => ∃ k : Nat, k ≤ ws.length ∧ i = .int .i64 k ∧ out = .slice (some ⟨w.heap.size, 0, none⟩) (2 * k) (2 * ws.length) ∧
      wr.ownsRow w.heap.size 22 1 (.slice (some ⟨w.heap.size, 0, none⟩) (2 * k) (2 * ws.length)) (2 * k) (cellsOf (wdig (ws.take k))) ∧ Below w.heap.size w wr)
    (fun _ i _ => ws.length - (intOf i).toNat)
  case atStart => exact ⟨0, Nat.zero_le _, rfl, rfl, hown0, (Below.refl _ _).grown hgrow0 (Nat.le_refl _) (fun k h => by cases h)⟩
  case round =>
    obtain ⟨k, hk, rfl, rfl, hown, hnx⟩ := hrel
    by_cases hlt : k < ws.length
    · obtain rfl := hR.head (by omega)
      have hb := hR.lt (by omega)
      obtain ⟨x, hx⟩ : ∃ x : Nat, x = ws.getD k 0 := ⟨_, rfl⟩
      have hx64 : x < 18446744073709551616 := by rw [hx, getD_lt hlt]; exact hw _ (List.getElem_mem hlt)
      have hck : wr.cell? ⟨b, o + k, none⟩ = some (.int .u64 (x : Int)) := by rw [hx]; exact (hnx.cell (by exact hb)).trans (hR.cell k hlt)
      have hm : (x : Int).tmod 4294967296 = ((x % 4294967296 : Nat) : Int) := tmod_dig x
      have hq : IntKind.u64.wrap ((x : Int) / 4294967296) = ((x / 4294967296 : Nat) : Int) := quo_dig x hx64
      have HX : Hid (x = ws.getD k 0) := hx
      clear hx hx64
      have hsz := hnx.size
      go_wp2_with fail
      go_region_law (refine step_append_fits rfl (.tmp 15) (.tmp 26) 24 rfl w.heap.size 22 i0 1 Try.underlying24 hi hz1 w.heap.size (2 * k) (2 * ws.length) (cellsOf (wdig (ws.take k))) (by simp [Act.eval]) (by first | exact (hown.alloc _).drew | exact hown.drew.alloc _) ⟨wr.heap.size, 0, none⟩ 2 2 (cellsOf [x % 4294967296, x / 4294967296]) (by simp [Act.eval]) rfl (by exact cells_new wr (cellsOf [x % 4294967296, x / 4294967296]) 22) (cells_one _) (by omega) ?_; intro w1 hown1 hgrow1)
      all_goals
        go_wp2
        go_roundw
        case rel => exact ⟨k + 1, by omega, by go_num, rfl, from_step hlt HX.out hown1, (hnx.alloc hsz _).drew.grown hgrow1 (by simp; omega) (fun j hj => by cases hj; exact Nat.le_refl _)⟩
        case measure => simp [intOf]; omega
    · obtain rfl : k = ws.length := by omega
      rw [List.take_length] at hown
      obtain ⟨hl, hrep⟩ := rep_of_owns hown
      have hs := wdig_dig ws hw
      have hv := wdig_val ws
      go_wp2_with fail
      refine (norm_isN _ _ _ _ _ _ _ hl (by omega) hrep hs).mono ?_
      rintro e w' ⟨v, rfl, hN, rfl⟩
      go_wp2
      go_ret
      exact ⟨v, rfl, by rw [← hv]; exact hN, hnx⟩

end Go.Proofs.Ytpifgkhgnilpdaa
