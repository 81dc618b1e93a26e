/- Len of api's Nat; trim, copyOf, wider and within of limb. -/
import Derived.Test.YtpifgkhgnilpdaaLRep
namespace Go.Proofs.Ytpifgkhgnilpdaa
open Go.RowKit

set_option maxHeartbeats 400000 in
theorem len_any (w : World) (ga : Option Addr) (b o cap n : Nat) (xs : List Nat) (hl : xs.length = n) (hn : n ≤ 1099511627776) (hR : Rep w ga b o cap xs) :
    Calls Try.prog 48 #[.slice ga n cap] w fun e w' => e = .returned (.int .i64 (nlen xs n : Int)) ∧ w' = w := by
  obtain ⟨hh, hr, hc⟩ := hR
  go_enter Try.func48, Try.ntmps48
  go_wp2
  go_loop [3] (fun k => ∃ q : Nat, q ≤ n ∧ k = .int .i64 q ∧ Hid (nlen xs n = nlen xs q)) (fun k => (intOf k).toNat)
  case atStart => exact ⟨n, Nat.le_refl _, rfl, rfl⟩
  case round =>
    obtain ⟨q, hq, rfl, hN⟩ := hrel
    by_cases hlt : 0 < q
    · obtain ⟨k, rfl⟩ : ∃ k, q = k + 1 := ⟨q - 1, by omega⟩
      obtain rfl := hh (by omega)
      have hk := hc k (by omega)
      go_wp2
      · have hz : xs.getD k 0 = 0 := by
          have h : (((xs[k]?.getD 0 : Nat) : Int) == 0) = true := by assumption
          rw [List.getD_eq_getElem?_getD]; have := eq_of_beq h; omega
        exact ⟨⟨k, by omega, rfl, hN.out.trans (nlen_go xs k hz)⟩, by simp [intOf]⟩
      · have hz : 0 < xs.getD k 0 := by
          have h : (((xs[k]?.getD 0 : Nat) : Int) == 0) = false := by assumption
          rw [List.getD_eq_getElem?_getD]; have := ne_of_beq_false h; omega
        have e := hN.out.trans (nlen_stop xs k hz)
        go_ret
        exact ⟨ret_int (by rw [e]; rfl), rfl⟩
    · obtain rfl : q = 0 := by omega
      go_wp2
      go_ret
      exact ⟨ret_int (by rw [hN.out]; rfl), rfl⟩

set_option maxHeartbeats 400000 in
theorem trim_any (w : World) (ga : Option Addr) (b o cap n m : Nat) (xs : List Nat) (hl : xs.length = n) (hn : n ≤ 1099511627776) (hR : Rep w ga b o cap xs) (hm : m = nlen xs n) :
    Calls Try.prog 41 #[.slice ga n cap] w fun e w' => e = .returned (.slice ga m cap) ∧ w' = w := by
  have hmn : m ≤ n := by rw [hm]; exact nlen_le xs n
  have hcap : n ≤ cap := by have := hR.room; omega
  have CL := hide (fun w' (h : w' = w) => h ▸ len_any w ga b o cap n xs hl hn hR)
  rw [← hm] at CL
  clear hm hR
  go_enter Try.func41, Try.ntmps41
  go_wp2_with fail
  refine (unhide CL _ rfl).mono ?_
  rintro e w' ⟨rfl, rfl⟩
  go_wp2
  go_ret
  exact ⟨ret_slice rfl, rfl⟩

theorem splice_copy (xs : List Nat) (n m : Nat) (h : xs.length = n) : splice (zlist (n + m)) 0 (crow xs) = cellsOf (xs ++ List.replicate m 0) := by
  simp [splice, zlist, crow, cellsOf, h]

theorem make_nat (n cp : Nat) (z : Int) (hz : z = (cp : Int)) (h : cp = n) (hb : cp ≤ 2199023255552) : ∀ w, (Instr.makeSlice 38 (.int .i64 z) (.int .i64 z)).run Try.prog w = .ok (.slice (some ⟨w.heap.size, 0, none⟩) n n) (w.alloc (.cells (zlist n).toArray 22)) := fun w => by
  obtain ⟨i0, hi, hz0, hz1, hz2⟩ := info_parts Try.infoU
  subst hz h
  have h := run_make (P := Try.prog) w 38 22 i0 (.int .u64 0) Try.underlying38 hi hz0 .i64 .i64 (cp : Int) (cp : Int) (by omega) (by omega) (by rw [hz2]; omega) (by omega)
  rw [h]
  have e1 : ((cp : Int)).toNat = cp := by omega
  rw [e1, hz1, Nat.mul_one, made_zlist]

end Go.Proofs.Ytpifgkhgnilpdaa
