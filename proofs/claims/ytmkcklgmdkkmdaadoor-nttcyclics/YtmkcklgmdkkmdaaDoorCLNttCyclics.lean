/- NttCyclics: what the law's walk comes to. -/
import Derived.Test.YtmkcklgmdkkmdaaDoorM14
import Derived.Test.YtmkcklgmdkkmdaaDoorM6
namespace Go.Proofs.YtmkcklgmdkkmdaaDoor
open Go.RowKit

/-- append to a row that is full: a new row; nothing that was turns. -/
theorem wpList_append_full {P : Program} {w : World} {ops : Array Oper} {rest : List Oper} {o : Oper} {a : Act} {Q : Exit → Act → World → Prop} (hgd : o.guard = none) (s x : Operand) (t : TypeId)
    (ho : o.op = .call { callee := .builtin .append, args := #[s, x], argTypes := #[t, t] })
    (e : TypeId) (i : TypeInfo) (z : Value) (size bytes : Nat) (ht : P.underlying t = some (.slice e)) (hi : P.info? e = some i) (hz : i.zero = some z) (hsize : i.size = size) (hby : i.bytes = bytes)
    (ga : Addr) (n : Nat) (xs : List Value) (hs : a.eval s = .slice (some ga) n n) (hxl : xs.length = n * size) (holds : ∀ j u, xs[j]? = some u → w.cell? (ga.add j) = some u)
    (ad : Addr) (m c : Nat) (news : List Value) (hx : a.eval x = .slice (some ad) m c) (hl : news.length = m * size) (hnews : ∀ j u, news[j]? = some u → w.cell? (ad.add j) = some u) (hm : 0 < m) (h63 : n + m ≤ maxLen) (hbytes : (n + m) * bytes ≤ 140737488355328)
    (h : ∀ C w', Below w.heap.size w w' → wpList P ops Q rest (a.put o.dst (.slice (some ⟨w.heap.size, 0, none⟩) (n + m) C)) w') : wpList P ops Q (o :: rest) a w := by
  subst hsize
  subst hby
  have hr := run_append_grow (P := P) w t o.type e i z ht hi hz ga n n xs hxl holds ad m c news hl hnews (by omega) (by simp only [maxLen] at h63; omega) (growslice_fits (by omega) hbytes)
  refine wpList_plain hgd fun _ hK => ?_
  unfold Oper.wp execOp
  simp only [ho, resolve, invoke, builtin, Sem.run_bind, Sem.run_pure, Result.andThen_ok, List.map_toArray, List.map_cons, List.map_nil, hs, hx, hr]
  exact hK _ _ (h _ _ ((Below.refl _ _).drew.alloc (Nat.le_refl _) _))

theorem blk_cells {w : World} {g : Nat} {zs : List Nat} (h : Blk w g zs) : ∀ j u, (cellsOf zs)[j]? = some u → w.cell? ((⟨g, 0, none⟩ : Addr).add j) = some u := by
  intro j u hu
  have e : (⟨g, 0, none⟩ : Addr).add j = ⟨g, j, none⟩ := by
    by_cases h0 : j = 0
    · subst h0; simp [Addr.add]
    · simp [Addr.add, h0]
  have hj : j < zs.length := by
    have := (List.getElem?_eq_some_iff.1 hu).1
    simpa using this
  rw [e, h.cell j hj]
  simp [cellsOf, List.getElem?_eq_getElem hj] at hu
  rw [← hu, getD_lt hj]

set_option maxRecDepth 100000 in
set_option maxHeartbeats 6400000 in
theorem nttCyclics_any (k log : Int) (ga : Option Addr) (ba oa ca la : Nat) (xs : List Nat) (gb : Option Addr) (bb ob cb lb : Nat) (us : List Nat) (w : World) (h1 : -9223372036854775808 ≤ k) (h2 : k ≤ 9223372036854775807) (h3 : -9223372036854775808 ≤ log) (h4 : log ≤ 9223372036854775807) (hx : xs.length = la) (hA : Rep w ga ba oa ca xs) (hu : us.length = lb) (hB : Rep w gb bb ob cb us) (hT : TB w) :
    Calls Tryd.prog 6 #[.int .i64 k, .int .i64 log, .slice ga la ca, .slice gb lb cb] w fun e w' => e = .returned (.bool true) ∧ Below w.heap.size w w' := by
  obtain ⟨i0, hi, hz0, hz1, hz2⟩ := info_parts Tryd.infoU
  have CP := hide (lawPlan_any k log w h1 h2 h3 h4 hT)
  have CW := hide (fun w' (b : Below w.heap.size w w') => nttWakes_any w' (hT.next b))
  clear h1 h2 h3 h4 hT
  go_enter Tryd.func6, Tryd.ntmps6
  go_wp2_with fail
  refine (unhide CP).mono ?_
  rintro e w1 ⟨gt, gm, go, gp, p, r, L, H, rfl, PA⟩
  have N1 := PA.live
  have hL := PA.low
  have hp1 := PA.lo
  have hp2 := PA.hi
  have hA1 := hA.next PA.old
  have hB1 := hB.next PA.old
  obtain ⟨N, hN⟩ : ∃ N, N = 2 ^ L := ⟨_, rfl⟩
  have hNb : N ≤ 32 := by rw [hN]; exact Nat.pow_le_pow_right (by decide) hL
  have hN0 : 1 ≤ N := by rw [hN]; exact one_le_two_pow L
  have e1 := shl_i hN
  have wN : IntKind.i64.wrap (N : Int) = (N : Int) := by rw [IntKind.wrap_i64]; omega
  have wL : IntKind.u64.wrap (L : Int) = (L : Int) := by rw [IntKind.wrap_u64]; omega
  have hH := N1.ps.half
  rw [← hN] at hH
  have eH : (N : Int).tdiv 2 = (H : Int) := by rw [hH]; rfl
  have eH2 : (N : Int) / 2 = (H : Int) := by rw [hH]; rfl
  have wH : IntKind.i64.wrap (H : Int) = (H : Int) := by rw [IntKind.wrap_i64]; omega
  obtain ⟨H3, hH3⟩ : ∃ H3, H3 = 3 * H := ⟨_, rfl⟩
  have eH3 : 3 * (H : Int) = (H3 : Int) := by omega
  have wH3 : IntKind.i64.wrap (H3 : Int) = (H3 : Int) := by rw [IntKind.wrap_i64]; omega
  obtain ⟨K, hK⟩ : ∃ K, K = H3 * L := ⟨_, rfl⟩
  have hKb : K ≤ 480 := by rw [hK]; exact Nat.mul_le_mul (show H3 ≤ 96 by omega) hL
  have eK : (H3 : Int) * (L : Int) = (K : Int) := by rw [hK]; exact (Int.natCast_mul H3 L).symm
  have wK : IntKind.i64.wrap (K : Int) = (K : Int) := by rw [IntKind.wrap_i64]; omega
  obtain ⟨N2, hN2⟩ : ∃ N2, N2 = 2 * N := ⟨_, rfl⟩
  have eN2 : 2 * (N : Int) = (N2 : Int) := by omega
  have wN2 : IntKind.i64.wrap (N2 : Int) = (N2 : Int) := by rw [IntKind.wrap_i64]; omega
  obtain ⟨S, hS⟩ : ∃ S, S = K + N2 := ⟨_, rfl⟩
  have eS : (K : Int) + (N2 : Int) = (S : Int) := by omega
  have wS : IntKind.i64.wrap (S : Int) = (S : Int) := by rw [IntKind.wrap_i64]; omega
  have HS : Hid (((3 * (H * L) + 2 * N : Nat) : Int) = (S : Int)) := by
    show _ = _
    rw [hS, hK, hN2, hH3, Nat.mul_assoc]
  have hrl := rowTo_length N xs
  have hvl := rowTo_length N us
  have CA := hide (lawRow_any w1 ga ba oa ca la N xs hx (by omega) hA1)
  have CB := hide (fun w' (b : Below w1.heap.size w1 w') => lawRow_any w' gb bb ob cb lb N us hu (by omega) (hB1.next b))
  generalize rowTo N xs = ys at *
  generalize rowTo N us = vs at *
  have HC : Hid (cyv p r L ys vs = convR p N ys vs) := by show _ = _; rw [hN]; exact cyv_conv (by omega) N1.ps.rt PA.two (by rw [hrl, hN]) (by rw [hvl, hN])
  have hcl := convR_length p N ys vs
  have HN := hide hN
  have wB := N1.own.old.size
  have lts := N1.lt
  clear PA hA hA1 hB hB1 CP hN hK hH hS hN2 hH3
  go_wp2_with fail
  refine (unhide CA).mono ?_
  rintro e w2 ⟨rfl, hA2, b2⟩
  have N2' := N1.next b2
  have s2 := hA2.lt
  have CB := hide (unhide CB w2 b2)
  clear CA b2 N1
  go_wp2_with fail
  refine (unhide CB).mono ?_
  rintro e w3 ⟨rfl, hB3, b3⟩
  have N3 := N2'.next b3
  have hA3 := hA2.next b3
  have s3 := hB3.lt
  have CC := hide (cyclic_any N3.ps N3.own.met N (unhide HN) _ _ w1.heap.size 0 N w2.heap.size 0 N ys vs hrl (hA3.whole hrl) hvl (hB3.whole hvl) (by omega) (by omega) (by omega))
  rw [unhide HC, unhide HS, Int.zero_add] at CC
  have HREF := hide (fun w' (h : Rep w' (some ⟨w1.heap.size, 0, none⟩) w1.heap.size 0 N ys) (h' : Rep w' (some ⟨w2.heap.size, 0, none⟩) w2.heap.size 0 N vs) => rConv_any p N w' _ _ w1.heap.size 0 N N w2.heap.size 0 N N ys vs hrl (by omega) h hvl (by omega) h' (by omega) (by omega) (by omega) (by omega))
  generalize convR p N ys vs = Z at *
  clear CB N2' b3 hA2 HC
  go_wp2_with fail
  refine (unhide CC).mono ?_
  rintro e w4 ⟨g, rfl, hg, hZ4, M4, T4⟩
  have N4 := N3.step M4 T4
  have hA4 := hA3.but T4.grown (by omega)
  have hB4 := hB3.but T4.grown (by omega)
  clear CC N3 M4 T4 hA3 hB3
  have hone : Below w4.heap.size w4 (w4.alloc (.cells #[.int .u64 1] 22)) := (Below.refl _ _).alloc (Nat.le_refl _) _
  have N5 := N4.next hone
  have hA5 := hA4.next hone
  have hB5 := hB4.next hone
  have hZ5 := hZ4.next hone
  have hnew := cells_new w4 [.int .u64 1] 22
  have hcl5 := blk_cells hB5
  have hcv : (cellsOf vs).length = N * 1 := by simp; exact hvl
  clear N4 hA4 hB4 hZ4
  have N6 := hide N5
  have A6 := hide hA5
  have B6 := hide hB5
  have Z6 := hide hZ5
  have HNW := hide hnew
  have HCL := hide hcl5
  clear N5 hA5 hB5 hZ5 hnew hcl5 hone
  go_wp2_with (at_builtin; refine wpList_append_full rfl _ _ 36 rfl 22 i0 (.int .u64 0) 1 8 Tryd.underlying36 hi hz0 hz1 hz2 ⟨w2.heap.size, 0, none⟩ N (cellsOf vs) rfl hcv ?g1 ⟨w4.heap.size, 0, none⟩ 1 1 [.int .u64 1] rfl rfl ?g2 (by omega) (by unfold maxLen; omega) (by omega) ?_)
  case g1 => exact unhide HCL
  case g2 => exact unhide HNW
  intro C w7 b7
  have b7 : Below (w4.alloc (.cells #[.int .u64 1] 22)).heap.size (w4.alloc (.cells #[.int .u64 1] 22)) w7 := by simpa using b7
  have N7 := (unhide N6).next b7
  have A7 := (unhide A6).next b7
  have B7 := (unhide B6).next b7
  have Z7 := (unhide Z6).next b7
  have CC := hide (cyclic_no N7.ps N (unhide HN) (N + 1) (some ⟨w1.heap.size, 0, none⟩) (some ⟨w4.heap.size + 1, 0, none⟩) N C (by omega))
  have CR := hide (unhide HREF w7 (A7.whole hrl) (B7.whole hvl))
  clear N6 A6 B6 Z6 HNW HCL b7 HREF A7 B7
  go_wp2_with fail
  refine (unhide CC).mono ?_
  rintro e w8 ⟨rfl, hw8⟩
  obtain rfl := hw8.symm
  clear hw8 CC
  go_wp2_with fail
  refine (unhide CR).mono ?_
  rintro e w9 ⟨rfl, hR9, b9⟩
  have N9 := N7.next b9
  have Z9 := Z7.next b9
  have CS := hide (keepSame_any w9 _ _ g 0 N w7.heap.size 0 N N Z hcl (by omega) (Z9.whole hcl) (hR9.whole hcl))
  clear N7 Z7 b9 CR hR9
  go_wp2_with fail
  refine (unhide CS).mono ?_
  rintro e w10 ⟨rfl, b10⟩
  have N10 := N9.next b10
  have CM := hide (muls_any N10.own.met)
  clear N9 Z9 b10 CS
  have q1 : ((S : Int) == (S : Int)) = true := by simp
  go_wp2_with fail
  refine (unhide CM).mono ?_
  rintro e w11 ⟨rfl, hw11⟩
  obtain rfl := hw11.symm
  clear hw11 CM
  go_wp2_with fail
  refine (unhide CW _ N10.own.old).mono ?_
  rintro e w12 ⟨rfl, b12⟩
  have b := bstep N10.own.old b12
  go_wp2
  go_ret
  exact ⟨rfl, b⟩

end Go.Proofs.YtmkcklgmdkkmdaaDoor
