/- The reference's transform, by its definition. -/
import Derived.Test.YtmkcklgmdkkmdaaDoorM6
import Derived.Test.YtmkcklgmdkkmdaaDoorM7
import Derived.Test.YtmkcklgmdkkmdaaDoorCCut
namespace Go.Proofs.YtmkcklgmdkkmdaaDoor
open Go.RowKit

theorem old_below {W : World} (u : Old W) : Below W.heap.size W u.val := u.old

set_option maxRecDepth 100000 in
set_option maxHeartbeats 3200000 in
theorem rForward_any (p r : Nat) (w : World) (ga : Option Addr) (b o cap n : Nat) (xs : List Nat) (hl : xs.length = n) (hn : n ≤ 1048576) (hR : Rep w ga b o cap xs) (h0 : 1 < p) (hp : p < 18446744073709551616) :
    Calls Tryd.prog 20 #[.slice ga n cap, .int .u64 (r : Int), .int .u64 (p : Int)] w fun e w' => e = .returned (.slice (some ⟨w.heap.size, 0, none⟩) n n) ∧ Blk w' w.heap.size (fwd p r xs) ∧ Below w.heap.size w w' := by
  have hst := hide (frow_start p r xs)
  have hk0 := hide (blk_zeros w n)
  have hmk := make_su n n (n : Int) rfl rfl (by omega)
  have HB0 := hide ((Below.refl w.heap.size w).alloc (Nat.le_refl _) (.cells (zlist n).toArray 22))
  have CM := hide (fun x y w => rMul_any p x y w (by omega) hp)
  have CA := hide (fun x y w => rAdd_any p x y w (by omega) hp)
  have H1 := hide (fun zs k m => frow_at (p := p) (w := r) (xs := xs) (zs := zs) (k := k) (m := m))
  have H2 := hide (fun zs k m => frow_step (p := p) (w := r) (xs := xs) (zs := zs) (k := k) (m := m))
  have H3 := hide (fun zs k => frow_next (p := p) (w := r) (xs := xs) (zs := zs) (k := k))
  have H4 := hide (fun zs => frow_end (p := p) (w := r) (xs := xs) (zs := zs))
  have H5 : Hid (∀ k m, part p r xs k (m + 1) = ad p (part p r xs k m) (ml p (xs.getD m 0) (pw p r (m * k)))) := fun _ _ => rfl
  have H6 := hide (pw_step p r)
  have H7 := hide (pw_one_more p r)
  have H8 : Hid (∀ zs k m, FRow p r xs zs k m → zs.length = xs.length) := fun zs k m h => h.1
  have e1 : (1 : Int).tmod (p : Int) = 1 := by
    have : (1 : Int).tmod (p : Int) = ((1 % p : Nat) : Int) := rfl
    rw [this, Nat.mod_eq_of_lt h0]; rfl
  have e2 : (1 : Int) % (p : Int) = 1 := by
    have : (1 : Int) % (p : Int) = ((1 % p : Nat) : Int) := rfl
    rw [this, Nat.mod_eq_of_lt h0]; rfl
  have hz : ¬ (p : Int) = 0 := by omega
  have P0 : pw p r 0 = 1 := by
    show r ^ 0 % p = 1
    rw [Nat.pow_zero, Nat.mod_eq_of_lt h0]
  have HP0 := hide P0
  have HP1 : Hid (∀ k, pw p r (0 * k) = 1) := fun k => by rw [Nat.zero_mul]; exact P0
  rw [hl] at hst H1 H2 H3 H4 H8
  clear P0
  generalize fwd p r xs = Z at *
  generalize part p r xs = T at *
  generalize FRow p r xs = F at *
  generalize pw p r = Q at *
  generalize ml p = M at *
  generalize ad p = D at *
  have hcap := hR.room
  rw [hl] at hcap
  obtain ⟨g, hg⟩ : ∃ g, w.heap.size = g := ⟨_, rfl⟩
  have hgb : 0 < xs.length → b < g := fun h => by rw [← hg]; exact hR.lt h
  rw [hg] at hk0 HB0 ⊢
  have HG := hide hg
  have hRw : Hid (∀ w', Below g w w' → Rep w' ga b o cap xs) := fun w' h => hR.below h (by rw [HG.out]; exact Nat.le_refl _)
  have hhead := hR.head
  clear hR
  go_enter Tryd.func20, Tryd.ntmps20
  go_wp2
  clear hmk hg
  go_loopw [8, 9] (fun sv kv wr => ∃ (s k : Nat) (zs : List Nat), k ≤ n ∧ sv = .int .u64 (s : Int) ∧ kv = .int .i64 (k : Int) ∧ Hid (s = Q k) ∧ Hid (F zs k 0) ∧ Blk wr g zs ∧ Below g w wr) (fun _ kv _ => n - (intOf kv).toNat)
  case atStart => exact ⟨1, 0, _, Nat.zero_le _, rfl, rfl, (unhide HP0).symm, hst, unhide hk0, unhide HB0⟩
  case round =>
    clear hst hk0 HB0
    obtain ⟨s, k, zs, hk, rfl, rfl, hs, hF, hB, hb⟩ := hrel
    by_cases h1 : k < n
    · obtain rfl := hhead (by omega)
      have hk1 : (k : Int) < (n : Int) := by omega
      go_wp2
      go_loopw [10, 11] (fun xv jv wr => ∃ (x j : Nat) (zs : List Nat), j ≤ n ∧ xv = .int .u64 (x : Int) ∧ jv = .int .i64 (j : Int) ∧ Hid (x = Q (j * k)) ∧ Hid (F zs k j) ∧ Blk wr g zs ∧ Below g w wr) (fun _ jv _ => n - (intOf jv).toNat)
      case atStart => exact ⟨1, 0, zs, Nat.zero_le _, rfl, rfl, (unhide HP1 k).symm, hF, hB, hb⟩
      case round =>
        clear hF hB hb
        obtain ⟨x, j, zs, hj, rfl, rfl, hx, hF, hB, hb⟩ := hrel
        by_cases h2 : j < n
        · have hj1 : (j : Int) < (n : Int) := by omega
          have hzl := unhide H8 _ _ _ hF.out
          obtain ⟨y, hy⟩ : ∃ y, y = xs.getD j 0 := ⟨_, rfl⟩
          obtain ⟨z, hzz⟩ : ∃ z, z = zs.getD k 0 := ⟨_, rfl⟩
          have cy : wr.cell? ⟨b, o + j, none⟩ = some (.int .u64 (y : Int)) := by rw [hy]; exact (unhide hRw wr hb).cell j (by omega)
          have cz : wr.cell? ⟨g, k, none⟩ = some (.int .u64 (z : Int)) := by rw [hzz]; exact hB.cell k (by omega)
          have ht := unhide H1 zs k j hF.out (by omega)
          rw [← hzz] at ht
          have hstep := unhide H2 zs k j hF.out (by omega)
          have hT := unhide H5 k j
          rw [← hy, ← hx.out, ← ht] at hT
          have HF := hide hstep
          have HT := hide hT
          have hxs : M x s = Q ((j + 1) * k) := by rw [hx.out, hs.out]; exact unhide H6 k j
          have HX := hide hxs
          have yy := Old.cell cy
          have yz := Old.cell cz
          have inst := old_some wr
          have C1 := hide (fun w => unhide CM y x w)
          have C2 := hide (fun w => unhide CA z (M y x) w)
          have C3 := hide (fun w => unhide CM x s w)
          clear hy hzz ht hstep hT hxs hx hF
          generalize T k (j + 1) = t at *
          have hD : D z (M y x) = t := (unhide HT).symm
          rw [hD] at C2
          clear HT hD
          generalize M y x = m at *
          go_wp2_with fail
          refine region_last 16 (by kernel_rfl) (by kernel_rfl) (by kernel_rfl) (by kernel_rfl) (by kernel_rfl) (by kernel_rfl) ?_
          simp only [List.take_succ_cons, List.take_zero, List.drop_succ_cons, List.drop_zero]
          repeat (go_big_quiet_step (first | (go_at_call 42; exact Calls.old (unhide C1 _)) | (go_at_call 30; exact Calls.old (unhide C2 _))))
          refine wpQuiet_nil ?_
          intro w5 hw5
          obtain ⟨u, rfl⟩ := hw5
          have hB5 := hB.next u.old
          have hb5 : Below g w u.val := hb.trans (u.old.mono (by have := hb.size; rw [HG.out] at this; exact this))
          have c5 := hB5.cell k (by omega)
          have f5 := hB5.frozen k
          generalize u.val = w5 at *
          clear u
          go_wp2_with fail
          refine (unhide C3 _).mono ?_
          rintro e w7 ⟨rfl, b2⟩
          have hB7 := (hB5.set k t).next b2
          have hb6 : Below g w (w5.setCell ⟨g, k, none⟩ (.int .u64 (t : Int))) := hb5.setCell (Nat.le_refl _) _
          have hb7 : Below g w w7 := hb6.trans (b2.mono (by have := hb6.size; rw [HG.out] at this; exact this))
          have hmm : Hid (n - (j + 1) < n - j) := by show _ < _; omega
          clear b2
          go_wp2
          go_roundw
          case rel => exact ⟨_, j + 1, _, by omega, rfl, by go_num, HX, HF, hB7, hb7⟩
          case measure => simp [intOf]; have := unhide hmm; omega
        · obtain rfl : j = n := by omega
          have hF2 := unhide H3 zs k hF.out
          have HF := hide hF2
          have C3 := hide (fun w => unhide CM s r w)
          have hsr : M s r = Q (k + 1) := by rw [hs.out]; exact unhide H7 k
          have HS := hide hsr
          have hmm : Hid (j - (k + 1) < j - k) := by show _ < _; omega
          clear hF hF2 hx hsr
          go_wp2_with fail
          refine (unhide C3 _).mono ?_
          rintro e w7 ⟨rfl, b2⟩
          have hB7 := hB.next b2
          have hb7 : Below g w w7 := hb.trans (b2.mono (by have := hb.size; rw [HG.out] at this; exact this))
          clear b2
          go_wp2
          go_roundw
          case rel => exact ⟨_, k + 1, zs, by omega, rfl, by go_num, HS, HF, hB7, hb7⟩
          case measure => simp [intOf]; have := unhide hmm; omega
    · obtain rfl : k = n := by omega
      have hZ := unhide H4 zs hF.out
      subst hZ
      clear hF
      go_wp2
      go_ret
      exact ⟨rfl, hB, hb⟩

end Go.Proofs.YtmkcklgmdkkmdaaDoor

/- The reference's Reds and Conv. -/
namespace Go.Proofs.YtmkcklgmdkkmdaaDoor
open Go.RowKit

/-- Numbers modulo p. -/
def reds (p : Nat) (xs : List Nat) : List Nat := xs.map fun x => x % p
def RRow (p : Nat) (xs zs : List Nat) (k : Nat) : Prop := zs.length = xs.length ∧ ∀ i, i < k → zs.getD i 0 = xs.getD i 0 % p
theorem rrow_step {p : Nat} {xs zs : List Nat} {k : Nat} (h : RRow p xs zs k) (hk : k < xs.length) : RRow p xs (zs.set k (xs.getD k 0 % p)) (k + 1) := by
  refine ⟨by simpa using h.1, fun i hi => ?_⟩
  have hl : k < zs.length := by rw [h.1]; exact hk
  by_cases e : i = k
  · subst e; simp [hl]
  · have : (zs.set k (xs.getD k 0 % p)).getD i 0 = zs.getD i 0 := by simp [List.getElem?_set_ne (Ne.symm e)]
    rw [this]
    exact h.2 i (by omega)
theorem rrow_end {p : Nat} {xs zs : List Nat} (h : RRow p xs zs xs.length) : zs = reds p xs := by
  refine list_of (by rw [h.1]; simp [reds]) fun k hk => ?_
  have hk2 : k < xs.length := by simpa [reds] using hk
  rw [h.2 k hk2]
  simp [reds, hk2]

set_option maxRecDepth 100000 in
set_option maxHeartbeats 1600000 in
theorem rReds_any (p : Nat) (w : World) (ga : Option Addr) (b o cap n : Nat) (xs : List Nat) (hl : xs.length = n) (hn : n ≤ 1048576) (hR : Rep w ga b o cap xs) (h0 : 0 < p) :
    Calls Tryd.prog 25 #[.slice ga n cap, .int .u64 (p : Int)] w fun e w' => e = .returned (.slice (some ⟨w.heap.size, 0, none⟩) n n) ∧ Blk w' w.heap.size (reds p xs) ∧ Below w.heap.size w w' := by
  have hst : Hid (RRow p xs (List.replicate n 0) 0) := ⟨by simp [hl], fun i hi => absurd hi (by omega)⟩
  have hk0 := hide (blk_zeros w n)
  have hmk := make_su n n (n : Int) rfl rfl (by omega)
  have HB0 := hide ((Below.refl w.heap.size w).alloc (Nat.le_refl _) (.cells (zlist n).toArray 22))
  have H2 := hide (fun zs k => rrow_step (p := p) (xs := xs) (zs := zs) (k := k))
  have H4 := hide (fun zs => rrow_end (p := p) (xs := xs) (zs := zs))
  have H8 : Hid (∀ zs k, RRow p xs zs k → zs.length = xs.length) := fun zs k h => h.1
  have hz : ¬ (p : Int) = 0 := by omega
  have HM : Hid (∀ k, ((xs.getD k 0 : Nat) : Int) % (p : Int) = ((xs.getD k 0 % p : Nat) : Int) ∧ ((xs.getD k 0 : Nat) : Int).tmod (p : Int) = ((xs.getD k 0 % p : Nat) : Int)) := fun k => ⟨rfl, rfl⟩
  rw [hl] at H2 H4 H8
  generalize reds p xs = Z at *
  generalize RRow p xs = F at *
  have hcap := hR.room
  rw [hl] at hcap
  obtain ⟨g, hg⟩ : ∃ g, w.heap.size = g := ⟨_, rfl⟩
  rw [hg] at hk0 HB0 ⊢
  have HG := hide hg
  have hRw : Hid (∀ w', Below g w w' → Rep w' ga b o cap xs) := fun w' h => hR.below h (by rw [HG.out]; exact Nat.le_refl _)
  have hhead := hR.head
  clear hR
  go_enter Tryd.func25, Tryd.ntmps25
  go_wp2
  clear hmk hg
  go_loopw [6] (fun kv wr => ∃ (k : Nat) (zs : List Nat), k ≤ n ∧ kv = .int .i64 (k : Int) ∧ Hid (F zs k) ∧ Blk wr g zs ∧ Below g w wr) (fun kv _ => n - (intOf kv).toNat)
  case atStart => exact ⟨0, _, Nat.zero_le _, rfl, hst, unhide hk0, unhide HB0⟩
  case round =>
    clear hst hk0 HB0
    obtain ⟨k, zs, hk, rfl, hF, hB, hb⟩ := hrel
    by_cases h1 : k < n
    · obtain rfl := hhead (by omega)
      have hk1 : (k : Int) < (n : Int) := by omega
      have hzl := unhide H8 _ _ hF.out
      obtain ⟨m1, m2⟩ := unhide HM k
      have cy := (unhide hRw wr hb).cell k (by omega)
      have hstep := unhide H2 zs k hF.out (by omega)
      obtain ⟨y, hy⟩ : ∃ y, y = xs.getD k 0 := ⟨_, rfl⟩
      rw [← hy] at m1 m2 cy hstep
      obtain ⟨z, hzz⟩ : ∃ z, z = y % p := ⟨_, rfl⟩
      rw [← hzz] at m1 m2 hstep
      have HF := hide hstep
      have cz := hB.cell k (by omega)
      have fz := hB.frozen k
      have hB7 := hB.set k z
      have hb7 : Below g w (wr.setCell ⟨g, k, none⟩ (.int .u64 (z : Int))) := hb.setCell (Nat.le_refl _) _
      have hmm : Hid (n - (k + 1) < n - k) := by show _ < _; omega
      clear hy hzz hstep hF
      go_wp2
      go_roundw
      case rel => exact ⟨k + 1, _, by omega, by go_num, HF, hB7, hb7⟩
      case measure => simp [intOf]; have := unhide hmm; omega
    · obtain rfl : k = n := by omega
      have hZ := unhide H4 zs hF.out
      subst hZ
      clear hF
      go_wp2
      go_ret
      exact ⟨rfl, hB, hb⟩

/-- Sums of products x b[j] from the place i on, going round; then of all. -/
def cvIn (p m x : Nat) (ys : List Nat) (i : Nat) (zs : List Nat) : Nat → List Nat
  | 0 => zs
  | j + 1 => (cvIn p m x ys i zs j).set ((i + j) % m) (ad p ((cvIn p m x ys i zs j).getD ((i + j) % m) 0) (ml p x (ys.getD j 0)))
def cvOut (p m : Nat) (xs ys : List Nat) : Nat → List Nat
  | 0 => List.replicate m 0
  | i + 1 => cvIn p m (xs.getD i 0) ys i (cvOut p m xs ys i) ys.length
def convR (p m : Nat) (xs ys : List Nat) : List Nat := cvOut p m xs ys xs.length
theorem cvIn_length (p m x : Nat) (ys : List Nat) (i : Nat) (zs : List Nat) : ∀ j, (cvIn p m x ys i zs j).length = zs.length
  | 0 => rfl
  | j + 1 => by unfold cvIn; rw [List.length_set, cvIn_length p m x ys i zs j]
theorem cvOut_length (p m : Nat) (xs ys : List Nat) : ∀ i, (cvOut p m xs ys i).length = m
  | 0 => by simp [cvOut]
  | i + 1 => by unfold cvOut; rw [cvIn_length, cvOut_length p m xs ys i]
theorem cvIn_cg {p m x : Nat} {ys zs : List Nat} {i : Nat} (hm : 0 < m) (hl : zs.length = m) (k : Nat) (hk : k < m) : ∀ j, Cg p ((cvIn p m x ys i zs j).getD k 0 : Int) ((zs.getD k 0 : Int) + sI j fun t => if (i + t) % m = k then (x : Int) * rowI ys t else 0)
  | 0 => Cg.of_eq (by show _ = (zs.getD k 0 : Int) + 0; rw [Int.add_zero]; rfl)
  | j + 1 => by
    have ih := cvIn_cg (p := p) (x := x) (ys := ys) (i := i) hm hl k hk j
    have hlen : (cvIn p m x ys i zs j).length = m := by rw [cvIn_length, hl]
    have hq : (i + j) % m < m := Nat.mod_lt _ hm
    show Cg p (((cvIn p m x ys i zs j).set ((i + j) % m) (ad p ((cvIn p m x ys i zs j).getD ((i + j) % m) 0) (ml p x (ys.getD j 0)))).getD k 0 : Int) ((zs.getD k 0 : Int) + ((sI j fun t => if (i + t) % m = k then (x : Int) * rowI ys t else 0) + if (i + j) % m = k then (x : Int) * rowI ys j else 0))
    by_cases e : (i + j) % m = k
    · rw [if_pos e, e]
      have : ((cvIn p m x ys i zs j).set k (ad p ((cvIn p m x ys i zs j).getD k 0) (ml p x (ys.getD j 0)))).getD k 0 = ad p ((cvIn p m x ys i zs j).getD k 0) (ml p x (ys.getD j 0)) := by
        simp [hlen, hk]
      rw [this]
      refine (ad_cg p _ _).trans (((ih.add (ml_cg p _ _))).trans (Cg.of_eq ?_))
      show _ + _ + (x : Int) * ((ys.getD j 0 : Nat) : Int) = _
      unfold rowI
      omega
    · rw [if_neg e]
      have : ((cvIn p m x ys i zs j).set ((i + j) % m) (ad p ((cvIn p m x ys i zs j).getD ((i + j) % m) 0) (ml p x (ys.getD j 0)))).getD k 0 = (cvIn p m x ys i zs j).getD k 0 := by
        simp [List.getElem?_set_ne e]
      rw [this, Int.add_zero]
      exact ih
theorem cvOut_cg {p m : Nat} {xs ys : List Nat} (hm : 0 < m) (k : Nat) (hk : k < m) : ∀ i, Cg p ((cvOut p m xs ys i).getD k 0 : Int) (sI i fun s => sI ys.length fun t => if (s + t) % m = k then rowI xs s * rowI ys t else 0)
  | 0 => Cg.of_eq (by show (((List.replicate m 0).getD k 0 : Nat) : Int) = 0; simp [hk])
  | i + 1 => by
    refine (cvIn_cg hm (cvOut_length p m xs ys i) k hk ys.length).trans ?_
    exact (cvOut_cg hm k hk i).add (Cg.refl _ _)
theorem cvIn_lt {p m x : Nat} {ys zs : List Nat} {i : Nat} (hp : 0 < p) (hz : ∀ k, zs.getD k 0 < p) : ∀ j k, (cvIn p m x ys i zs j).getD k 0 < p
  | 0, k => hz k
  | j + 1, k => by
    unfold cvIn
    have ih := cvIn_lt (m := m) (x := x) (ys := ys) (i := i) hp hz j
    generalize (i + j) % m = q
    rw [List.getD_eq_getElem?_getD, List.getElem?_set]
    split
    · split
      · exact Nat.mod_lt _ hp
      · exact hp
    · have := ih k
      rwa [List.getD_eq_getElem?_getD] at this
theorem cvOut_lt {p m : Nat} {xs ys : List Nat} (hp : 0 < p) : ∀ i k, (cvOut p m xs ys i).getD k 0 < p
  | 0, k => by
    show (List.replicate m 0).getD k 0 < p
    rw [List.getD_eq_getElem?_getD, List.getElem?_replicate]
    split <;> exact hp
  | i + 1, k => cvIn_lt hp (cvOut_lt hp i) ys.length k

set_option maxRecDepth 100000 in
set_option maxHeartbeats 3200000 in
theorem rConv_any (p m : Nat) (w : World) (ga gb : Option Addr) (b o cap n b' o' cap' n' : Nat) (xs ys : List Nat) (hl : xs.length = n) (hn : n ≤ 1048576) (hR : Rep w ga b o cap xs) (hl' : ys.length = n') (hn' : n' ≤ 1048576) (hR' : Rep w gb b' o' cap' ys) (hm : 1 ≤ m) (hm2 : m ≤ 1048576) (h0 : 0 < p) (hp : p < 18446744073709551616) :
    Calls Tryd.prog 27 #[.slice ga n cap, .slice gb n' cap', .int .i64 (m : Int), .int .u64 (p : Int)] w fun e w' => e = .returned (.slice (some ⟨w.heap.size, 0, none⟩) m m) ∧ Blk w' w.heap.size (convR p m xs ys) ∧ Below w.heap.size w w' := by
  have hk0 := hide (blk_zeros w m)
  have hmk := make_su m m (m : Int) rfl rfl (by omega)
  have HB0 := hide ((Below.refl w.heap.size w).alloc (Nat.le_refl _) (.cells (zlist m).toArray 22))
  have CM := hide (fun x y w => rMul_any p x y w h0 hp)
  have CA := hide (fun x y w => rAdd_any p x y w h0 hp)
  have hst : Hid (cvOut p m xs ys 0 = List.replicate m 0) := rfl
  have H1 : Hid (∀ i, cvOut p m xs ys (i + 1) = cvIn p m (xs.getD i 0) ys i (cvOut p m xs ys i) n') := fun i => by show _ = _; rw [← hl']; rfl
  have H2 : Hid (∀ x i zs, cvIn p m x ys i zs 0 = zs) := fun _ _ _ => rfl
  have H3 : Hid (∀ x i zs j, cvIn p m x ys i zs (j + 1) = (cvIn p m x ys i zs j).set ((i + j) % m) (ad p ((cvIn p m x ys i zs j).getD ((i + j) % m) 0) (ml p x (ys.getD j 0)))) := fun _ _ _ _ => rfl
  have H4 : Hid (convR p m xs ys = cvOut p m xs ys n) := by show _ = _; rw [← hl]; rfl
  have H5 : Hid (∀ x i zs j, (cvIn p m x ys i zs j).length = zs.length) := fun x i zs j => cvIn_length p m x ys i zs j
  have H6 : Hid (∀ i, (cvOut p m xs ys i).length = m) := fun i => cvOut_length p m xs ys i
  generalize convR p m xs ys = Z at *
  generalize cvOut p m xs ys = O at *
  generalize ml p = M at *
  generalize ad p = D at *
  have hcap := hR.room
  rw [hl] at hcap
  have hcap' := hR'.room
  rw [hl'] at hcap'
  obtain ⟨g, hg⟩ : ∃ g, w.heap.size = g := ⟨_, rfl⟩
  rw [hg] at hk0 HB0 ⊢
  have HG := hide hg
  have hRw : Hid (∀ w', Below g w w' → Rep w' ga b o cap xs) := fun w' h => hR.below h (by rw [HG.out]; exact Nat.le_refl _)
  have hRw' : Hid (∀ w', Below g w w' → Rep w' gb b' o' cap' ys) := fun w' h => hR'.below h (by rw [HG.out]; exact Nat.le_refl _)
  have hhead := hR.head
  have hhead' := hR'.head
  have hmz : ¬ (m : Int) = 0 := by omega
  clear hR hR'
  go_enter Tryd.func27, Tryd.ntmps27
  go_wp2
  clear hmk hg
  go_loopw [10] (fun iv wr => ∃ (i : Nat) (zs : List Nat), i ≤ n ∧ iv = .int .i64 (i : Int) ∧ Hid (zs = O i) ∧ Blk wr g zs ∧ Below g w wr) (fun iv _ => n - (intOf iv).toNat)
  case atStart => exact ⟨0, _, Nat.zero_le _, rfl, hst.out.symm, unhide hk0, unhide HB0⟩
  case round =>
    clear hst hk0 HB0
    obtain ⟨i, z0, hi, rfl, hF, hB, hb⟩ := hrel
    by_cases h1 : i < n
    · obtain rfl := hhead (by omega)
      have hi1 : (i : Int) < (n : Int) := by omega
      obtain ⟨x, hx⟩ : ∃ x, x = xs.getD i 0 := ⟨_, rfl⟩
      have HN := unhide H1 i
      rw [← hF.out, ← hx] at HN
      have HN := hide HN
      have hz0 : z0.length = m := by rw [hF.out]; exact unhide H6 i
      have HS := hide (fun j => unhide H3 x i z0 j)
      have HL := hide (fun j => unhide H5 x i z0 j)
      have HI := hide (unhide H2 x i z0)
      have HX := hide hx
      clear hF hx H1 H2 H3 H5 H6
      generalize cvIn p m x ys i z0 = C at *
      go_wp2
      go_loopw [11] (fun jv wr => ∃ (j : Nat) (zs : List Nat), j ≤ n' ∧ jv = .int .i64 (j : Int) ∧ Hid (zs = C j) ∧ Blk wr g zs ∧ Below g w wr) (fun jv _ => n' - (intOf jv).toNat)
      case atStart => exact ⟨0, z0, Nat.zero_le _, rfl, (unhide HI).symm, hB, hb⟩
      case round =>
        clear hB hb HI
        obtain ⟨j, zs, hj, rfl, hF, hB, hb⟩ := hrel
        by_cases h2 : j < n'
        · obtain rfl := hhead' (by omega)
          have hj1 : (j : Int) < (n' : Int) := by omega
          have hzl : zs.length = m := by rw [hF.out, unhide HL j]; exact hz0
          obtain ⟨q, hq⟩ : ∃ q, q = (i + j) % m := ⟨_, rfl⟩
          obtain ⟨s, hs⟩ : ∃ s, s = i + j := ⟨_, rfl⟩
          have hqm : q < m := by rw [hq]; exact Nat.mod_lt _ (by omega)
          have es : (i : Int) + (j : Int) = (s : Int) := by omega
          have esw : IntKind.i64.wrap (s : Int) = (s : Int) := by rw [IntKind.wrap_i64]; omega
          have em : (s : Int).tmod (m : Int) = (q : Int) := by rw [hs, hq]; rfl
          have em2 : (s : Int) % (m : Int) = (q : Int) := by rw [hs, hq]; rfl
          have hqi : 0 ≤ (q : Int) ∧ (q : Int) < (m : Int) := by omega
          obtain ⟨y, hy⟩ : ∃ y, y = ys.getD j 0 := ⟨_, rfl⟩
          obtain ⟨z, hzz⟩ : ∃ z, z = zs.getD q 0 := ⟨_, rfl⟩
          have cx : wr.cell? ⟨b, o + i, none⟩ = some (.int .u64 (x : Int)) := by rw [unhide HX]; exact (unhide hRw wr hb).cell i (by omega)
          have cy : wr.cell? ⟨b', o' + j, none⟩ = some (.int .u64 (y : Int)) := by rw [hy]; exact (unhide hRw' wr hb).cell j (by omega)
          have cz : wr.cell? ⟨g, q, none⟩ = some (.int .u64 (z : Int)) := by rw [hzz]; exact hB.cell q (by omega)
          have hT := unhide HS j
          rw [← hF.out, ← hq, ← hzz, ← hy] at hT
          have HT := hide hT
          have yx := Old.cell cx
          have yy := Old.cell cy
          have yz := Old.cell cz
          have inst := old_some wr
          have C1 := hide (fun w => unhide CM x y w)
          have C2 := hide (fun w => unhide CA z (M x y) w)
          clear hy hzz hT hF hq hs
          generalize D z (M x y) = t at *
          generalize M x y = v at *
          go_wp2_with fail
          refine region_last 19 (by kernel_rfl) (by kernel_rfl) (by kernel_rfl) (by kernel_rfl) (by kernel_rfl) (by kernel_rfl) ?_
          simp only [List.take_succ_cons, List.take_zero, List.drop_succ_cons, List.drop_zero]
          repeat (go_big_quiet_step (first | (go_at_call 42; exact Calls.old (unhide C1 _)) | (go_at_call 30; exact Calls.old (unhide C2 _))))
          refine wpQuiet_nil ?_
          intro w5 hw5
          obtain ⟨u, rfl⟩ := hw5
          have hB5 := hB.next u.old
          have hb5 : Below g w u.val := hb.trans (u.old.mono (by have := hb.size; rw [HG.out] at this; exact this))
          have c5 := hB5.cell q (by omega)
          have f5 := hB5.frozen q
          generalize u.val = w5 at *
          clear u
          have hB7 := hB5.set q t
          have hb7 : Below g w (w5.setCell ⟨g, q, none⟩ (.int .u64 (t : Int))) := hb5.setCell (Nat.le_refl _) _
          have hmm : Hid (n' - (j + 1) < n' - j) := by show _ < _; omega
          go_wp2
          go_roundw
          case rel => exact ⟨j + 1, _, by omega, by go_num, (unhide HT).symm, hB7, hb7⟩
          case measure => simp [intOf]; have := unhide hmm; omega
        · obtain rfl : j = n' := by omega
          have hZ : zs = O (i + 1) := by rw [hF.out]; exact (unhide HN).symm
          have HZ := hide hZ
          have hmm : Hid (n - (i + 1) < n - i) := by show _ < _; omega
          clear hF hZ
          go_wp2
          go_roundw
          case rel => exact ⟨i + 1, zs, by omega, by go_num, HZ, hB, hb⟩
          case measure => simp [intOf]; have := unhide hmm; omega
    · obtain rfl : i = n := by omega
      have hZ : z0 = Z := by rw [hF.out]; exact (unhide H4).symm
      subst hZ
      clear hF
      go_wp2
      go_ret
      exact ⟨rfl, hB, hb⟩

end Go.Proofs.YtmkcklgmdkkmdaaDoor
