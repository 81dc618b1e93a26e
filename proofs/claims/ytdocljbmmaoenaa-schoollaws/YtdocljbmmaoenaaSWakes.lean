/- The example of the document (school); 'from' of the laws. -/
import Derived.Test.YtdocljbmmaoenaaSSqr
namespace Go.Proofs.Ytdocljbmmaoenaa
open Go.RowKit

set_option maxHeartbeats 400000 in
theorem from_school (w : World) (ga : Option Addr) (b o cap n A : Nat) (us : List Nat) (hl : us.length = n) (hn : n ≤ 1073741824) (hR : Rep w ga b o cap us) (hd : WDig us) (hA : A = wval us) :
    Calls Try.prog 13 #[.slice ga n cap] w fun e w' => ∃ v, e = .returned v ∧ IsN w' v A ∧ Below w.heap.size w w' := by
  subst hl
  have CF := hide (from_any w ga b o cap us (by omega) hR (wDig_mem hd))
  rw [← hA] at CF
  clear hA
  generalize us.length = n at *
  go_enter Try.func13, Try.ntmps13
  go_wp2_with fail
  refine (unhide CF).mono ?_
  rintro e w' ⟨v, rfl, hv, hb⟩
  go_wp2
  go_ret
  exact ⟨v, rfl, hv, hb⟩

/-- New, called behind a parameter that was laid into memory. -/
theorem schoolNew_box (T : Tab) (w : World) (ob : Obj) :
    Calls Try.prog 8 #[T.val] (w.alloc ob) fun e w' => ∃ ge g, e = .returned (.pointer (some ⟨ge, 0, none⟩)) ∧ Eng w' ge g 0 ∧ w.heap.size ≤ g ∧ w.heap.size ≤ ge ∧ Below w.heap.size w w' := by
  refine (schoolNew_any T _).mono ?_
  rintro e w' ⟨ge, g, h1, h2, h3, h4, b⟩
  have hs : w.heap.size ≤ (w.alloc ob).heap.size := by simp
  exact ⟨ge, g, h1, h2, Nat.le_trans hs h3, Nat.le_trans hs h4, bstep ((Below.refl _ _).alloc (Nat.le_refl _) _) b⟩

def Tab0 : Tab := ⟨0, 0, 0, 0, 0, 0, 0, 0, 0, 0, 0⟩
theorem in_oneG (w : World) (x g : Nat) (hx : x < 18446744073709551616) (hg : g < w.heap.size) : InG g (w.alloc (.cells #[.int .u64 (x : Int)] 55)) (.slice (some ⟨w.heap.size, 0, none⟩) 1 1) x 1 := by
  have hk : Blk (w.alloc (.cells #[.int .u64 (x : Int)] 55)) w.heap.size [x] := heap_alloc_new w _
  have hr := hk.rep 0 1 1 (by simp) (by omega)
  exact ⟨_, _, _, _, [x], rfl, rfl, hr, wDig_one hx, wval_one x, fun _ => by omega⟩
theorem can_wake : WCan [1, 18446744073709551614] := ⟨fun j => by match j with | 0 => decide | 1 => decide | j + 2 => simp, fun _ => by decide⟩

set_option maxRecDepth 100000 in
set_option maxHeartbeats 3200000 in
theorem schoolWakes_any (w : World) : Calls Try.prog 17 #[] w fun e w' => e = .returned (.bool true) ∧ Below w.heap.size w w' := by
  have CN := hide (schoolNew_any Tab0 w)
  unfold Tab0 Tab.val at CN
  go_enter Try.func17, Try.ntmps17
  go_wp2_with fail
  refine (unhide CN).mono ?_
  rintro e w1 ⟨ge, g, rfl, E1, hg, hge, b1⟩
  go_wp2_with fail
  have hgl := E1.met.lt
  have bA : Below w1.heap.size w1 (w1.alloc (.cells #[.int .u64 18446744073709551615] 55)) := (Below.refl _ _).alloc (Nat.le_refl _) _
  have s1 : (w1.alloc (.cells #[.int .u64 18446744073709551615] 55)).heap.size = w1.heap.size + 1 := by simp
  have bB : Below (w1.alloc (.cells #[.int .u64 18446744073709551615] 55)).heap.size (w1.alloc (.cells #[.int .u64 18446744073709551615] 55)) ((w1.alloc (.cells #[.int .u64 18446744073709551615] 55)).alloc (.cells #[.int .u64 18446744073709551615] 55)) := (Below.refl _ _).alloc (Nat.le_refl _) _
  have i1 := (in_oneG w1 18446744073709551615 g (by omega) hgl).next bB
  have i2 := in_oneG (w1.alloc (.cells #[.int .u64 18446744073709551615] 55)) 18446744073709551615 g (by omega) (by omega)
  rw [s1] at i2
  have E2 := (E1.next bA).next bB
  have b2 := hide (bstep (bstep b1 bA) bB)
  refine (schoolMul_any E2 _ _ _ _ 1 1 i1 i2 (by omega) (by omega) (by omega) (by omega)).mono ?_
  rintro e w2 ⟨r, rfl, nr, E3, g3⟩
  have b3 := hide (below_grown (unhide b2) g3 hg (unhide b2).size)
  obtain ⟨gr, br, cr, rfl, rr⟩ := new_words nr can_wake (by decide)
  clear nr g3 E2 i1 i2 bA bB s1 b2 b1 E1 CN
  go_wp2_with fail
  refine (wake_same w2 gr br cr [1, 18446744073709551614] 2 rfl (by omega) rr).mono ?_
  rintro e w3 ⟨rfl, b4⟩
  have E4 := E3.next b4
  have b5 := hide (bstep (unhide b3) b4)
  have cE := E4.ptr
  clear E3 rr b3 b4
  go_wp2_with fail
  refine (muls_any E4.met).mono ?_
  rintro e w4 ⟨rfl, rfl⟩
  go_wp2
  go_ret
  exact ⟨rfl, unhide b5⟩

end Go.Proofs.Ytdocljbmmaoenaa
