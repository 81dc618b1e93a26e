/- Package conv: Words as the statements ask it, and Mul. -/
import Derived.Test.YtpifgkhgnilpdaaDoorM16
import Derived.Test.YtpifgkhgnilpdaaDoorM19
namespace Go.Proofs.YtpifgkhgnilpdaaDoor
open Go.RowKit

set_option maxHeartbeats 1600000 in
theorem words_no (w : World) (go oo : Nat) (ga gb : Option Addr) (cap la cap' lb : Nat) (h : la = 0 ∨ lb = 0) :
    Calls Tryd.prog 9 #[.pointer (some ⟨go, oo, none⟩), .slice ga la cap, .slice gb lb cap'] w fun e w' => e = .returned (.tuple #[.slice none 0 0, .bool false]) ∧ w' = w := by
  have CF := hide (fun w => fit_no la lb w h)
  clear h
  go_enter Tryd.func9, Tryd.ntmps9
  go_wp2_with fail
  refine (unhide CF _).mono ?_
  rintro e w1 ⟨rfl, hw⟩
  obtain rfl := hw.symm
  clear hw CF
  go_wp2
  go_ret2
  exact ⟨rfl, rfl⟩

theorem spec_words : SpecWords := by
  intro w go oo s l m ga gb b o cap la b' o' cap' lb q xs ys hT hM h0 h1 hl hR dx _ hl' hR' dy _ ha ha2 hb hb2 hq
  refine (words_any w go oo s l m ga gb b o cap la b' o' cap' lb q xs ys hT hM h0 (by omega) hl hR dx hl' hR' dy ha (by omega) hb (by omega) hq).mono ?_
  rintro e w' ⟨g, rfl, hg, hTri, M, T⟩
  exact ⟨g, q, rfl, hg, Nat.le_refl _, hTri, M, T⟩
theorem spec_words_no : SpecWordsNo := fun w go oo ga gb cap la cap' lb _ _ h => words_no w go oo ga gb cap la cap' lb h

set_option maxRecDepth 100000 in
set_option maxHeartbeats 1600000 in
theorem convMul_any (w : World) (go oo : Nat) (s l m : Int) (ga gb : Option Addr) (b o cap la b' o' cap' lb : Nat) (xs ys : List Nat) (hT : TB w) (hM : Met w go oo s l m) (hs0 : 0 ≤ s) (hs : s ≤ 2305843009213693952) (hl : xs.length = la) (hR : Rep w ga b o cap xs) (dx : WDig xs) (hl' : ys.length = lb) (hR' : Rep w gb b' o' cap' ys) (dy : WDig ys) (ha : 1 ≤ la) (ha2 : la ≤ 16384) (hb : 1 ≤ lb) (hb2 : lb ≤ 16384) :
    Calls Tryd.prog 19 #[.pointer (some ⟨go, oo, none⟩), .slice ga la cap, .slice gb lb cap'] w fun e w' => ∃ v, e = .returned (.tuple #[v, .bool true]) ∧ NewW w.heap.size w' v (wval xs * wval ys) ∧ Met w' go oo (s + (tf la lb 3 : Int)) l m ∧ Touch go oo 3 w w' := by
  obtain ⟨q, hq⟩ : ∃ q, q + 1 = la + lb := ⟨la + lb - 1, by omega⟩
  have CW := hide (words_any w go oo s l m ga gb b o cap la b' o' cap' lb q xs ys hT hM hs0 hs hl hR dx hl' hR' dy ha ha2 hb hb2 hq)
  have HE := hide (cs_value (xs := xs) (ys := ys) (n := q) (by omega))
  have CC := hide (fun w g (h : TriAt w g q (cs xs ys)) => carry_any w (some ⟨g, 0, none⟩) g q q (cs xs ys) (by omega) (fun _ => rfl) (by omega) (Nat.le_refl _) h)
  rw [unhide HE] at CC
  have HG := hide hM.lt
  clear hT hM hR hR' HE hl hl' ha hb ha2 hb2 hq dx dy
  generalize wval xs * wval ys = V at *
  generalize cs xs ys = T at *
  generalize tf la lb 3 = C at *
  go_enter Tryd.func19, Tryd.ntmps19
  go_wp2_with fail
  refine (unhide CW).mono ?_
  rintro e w1 ⟨g, rfl, hg, hTri, M1, T1⟩
  have CC := hide (unhide CC _ _ hTri)
  have HM := hide M1
  have HT := hide T1
  clear CW hTri hg M1 T1
  go_wp2_with fail
  refine (unhide CC).mono ?_
  rintro e w2 ⟨r, rfl, nr, b2⟩
  have M2 := (unhide HM).next b2
  have T2 := (unhide HT).then b2 (unhide HM).lt
  have nr := nr.mono (unhide HT).grown.size
  clear CC b2
  go_wp2
  go_ret2
  exact ⟨r, rfl, nr, M2, T2⟩
set_option maxHeartbeats 1600000 in
theorem spec_mul_no : SpecMulNo := by
  intro w go oo ga gb cap la cap' lb _ _ h
  have CW := hide (words_no w go oo ga gb cap la cap' lb h)
  clear h
  go_enter Tryd.func19, Tryd.ntmps19
  go_wp2_with fail
  refine (unhide CW).mono ?_
  rintro e w1 ⟨rfl, hw⟩
  obtain rfl := hw.symm
  clear hw CW
  go_wp2
  go_ret2
  exact ⟨rfl, rfl⟩
theorem spec_mul : SpecMul := by
  intro w go oo s l m ga gb b o cap la b' o' cap' lb xs ys hT hM h0 h1 hl hR dx _ hl' hR' dy _ ha ha2 hb hb2
  exact convMul_any w go oo s l m ga gb b o cap la b' o' cap' lb xs ys hT hM h0 (by omega) hl hR dx hl' hR' dy ha (by omega) hb (by omega)

end Go.Proofs.YtpifgkhgnilpdaaDoor
