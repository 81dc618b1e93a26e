/- by of the landed code: a product by one route. Written by gen_yby.py. -/
import Derived.Test.YtiekgpphggejcaaGreatDoorB48
import Derived.Test.YtiekgpphggejcaaGreatDoorB50
import Derived.Test.YtiekgpphggejcaaGreatDoorB13
import Derived.Test.YtiekgpphggejcaaGreatDoorB33
import Derived.Test.YtiekgpphggejcaaGreatDoorB45
import Derived.Deep.RegionHeld3
namespace Go.Proofs.YtiekgpphggejcaaGreatDoor
open Go.RowKit

theorem min2_int (a b : Int) (w : World) : (Builtin.min2 (.int .i64 a) (.int .i64 b)).run Tryz.prog w = .ok (.int .i64 (min a b)) w := by
  unfold Builtin.min2
  simp [go_sem]
  omega
theorem min_three (a b c d : Int) (h : d = min (min a b) c) (w : World) : (Builtin.min_ #[3, 3, 3] 3 #[.int .i64 a, .int .i64 b, .int .i64 c]).run Tryz.prog w = .ok (.int .i64 d) w := by
  subst h
  simp [Builtin.min_, go_sem]
  rw [min2_int]
  show Sem.run Tryz.prog (Builtin.min2 (Value.int IntKind.i64 (min a b)) (Value.int IntKind.i64 c)) w = _
  rw [min2_int]
  congr 2
  omega
theorem mk_func (fn : Fn) (first cap : Array Value) (w : World) : (Instr.makeFunc fn first cap).run Tryz.prog w = .ok (.func fn first cap) w := rfl

set_option maxRecDepth 100000 in
set_option maxHeartbeats 1600000 in
theorem by_none (w : World) (gm : Nat) (u v : Value) (r : Int) (h : r < 1 ∨ 5 < r) :
    Calls Tryz.prog 50 #[.pointer (some ⟨gm, 0, none⟩), .int .i64 r, u, v] w fun e w' => e = .returned (.tuple #[.slice none 0 0, .bool false]) ∧ w' = w := by
  have h1 : (r == 1) = false := by simp; omega
  have h2 : (r == 2) = false := by simp; omega
  have h3 : (r == 3) = false := by simp; omega
  have h4 : (r == 4) = false := by simp; omega
  have h5 : (r == 5) = false := by simp; omega
  clear h
  go_enter Tryz.func50, Tryz.ntmps50
  go_wp2
  go_ret2
  exact ⟨rfl, rfl⟩

set_option maxRecDepth 100000 in
set_option maxHeartbeats 1600000 in
theorem by_one {w : World} {gm gt gk ge g : Nat} {s l m : Int} {T : Tab} (hE : MEng w gm gt gk ge g s l m T) {u v : Value} {Q : Value → World → Prop}
    (C : Calls Tryz.prog 61 #[.pointer (some ⟨ge, 0, none⟩), u, v] w fun e w' => ∃ r, e = .returned r ∧ Q r w') :
    Calls Tryz.prog 50 #[.pointer (some ⟨gm, 0, none⟩), .int .i64 1, u, v] w fun e w' => ∃ r, e = .returned (.tuple #[r, .bool true]) ∧ Q r w' := by
  have HC := hide C
  obtain ⟨e0, e1, e2, e3⟩ := hE.way
  have hmf := mk_func
  clear C hE
  go_enter Tryz.func50, Tryz.ntmps50
  go_wp2_with fail
  refine (unhide HC).mono ?_
  rintro e w1 ⟨r, rfl, h⟩
  have H := hide h
  clear h HC
  go_wp2
  go_ret2
  exact ⟨_, rfl, unhide H⟩

set_option maxRecDepth 100000 in
set_option maxHeartbeats 1600000 in
theorem by_two {w : World} {gm gt gk ge g : Nat} {s l m : Int} {T : Tab} (hE : MEng w gm gt gk ge g s l m T) {ga gb : Option Addr} {cap cap' la lb k : Nat} {Q : Value → World → Prop} (hk : k = min la lb) (hla : la ≤ 16384) (hlb : lb ≤ 16384)
    (C : Calls Tryz.prog 52 #[.pointer (some ⟨gm, 0, none⟩), .slice ga la cap, .slice gb lb cap', .int .i64 (k : Int)] w fun e w' => ∃ r, e = .returned r ∧ Q r w') :
    Calls Tryz.prog 50 #[.pointer (some ⟨gm, 0, none⟩), .int .i64 2, .slice ga la cap, .slice gb lb cap'] w fun e w' => ∃ r, e = .returned (.tuple #[r, .bool true]) ∧ Q r w' := by
  have HC := hide C
  obtain ⟨e0, e1, e2, e3⟩ := hE.way
  have hmf := mk_func
  have m1 := min_three (la : Int) (lb : Int) 16384 (k : Int) (by omega)
  clear hk hla hlb
  clear C hE
  go_enter Tryz.func50, Tryz.ntmps50
  go_wp2_with fail
  refine (unhide HC).mono ?_
  rintro e w1 ⟨r, rfl, h⟩
  have H := hide h
  clear h HC
  go_wp2
  go_ret2
  exact ⟨_, rfl, unhide H⟩

set_option maxRecDepth 100000 in
set_option maxHeartbeats 1600000 in
theorem by_three {w : World} {gm gt gk ge g : Nat} {s l m : Int} {T : Tab} (hE : MEng w gm gt gk ge g s l m T) {u v : Value} {Q : Value → Bool → World → Prop}
    (C : Calls Tryz.prog 62 #[.pointer (some ⟨gk, 0, none⟩), u, v, .func (.func 37) #[.pointer (some ⟨gm, 0, none⟩)] #[]] w fun e w' => ∃ r b, e = .returned (.tuple #[r, .bool b]) ∧ Q r b w') :
    Calls Tryz.prog 50 #[.pointer (some ⟨gm, 0, none⟩), .int .i64 3, u, v] w fun e w' => ∃ r b, e = .returned (.tuple #[r, .bool b]) ∧ Q r b w' := by
  have HC := hide C
  obtain ⟨e0, e1, e2, e3⟩ := hE.way
  have hmf := mk_func
  clear C hE
  go_enter Tryz.func50, Tryz.ntmps50
  go_wp2_with fail
  refine (unhide HC).mono ?_
  rintro e w1 ⟨r, b, rfl, h⟩
  have H := hide h
  clear h HC
  go_wp2
  go_ret2
  exact ⟨_, _, rfl, unhide H⟩

set_option maxRecDepth 100000 in
set_option maxHeartbeats 1600000 in
theorem by_four {w : World} {gm gt gk ge g : Nat} {s l m : Int} {T : Tab} (hE : MEng w gm gt gk ge g s l m T) {u v : Value} {Q : Value → Bool → World → Prop}
    (C : Calls Tryz.prog 63 #[.pointer (some ⟨gt, 0, none⟩), u, v, .func (.func 37) #[.pointer (some ⟨gm, 0, none⟩)] #[]] w fun e w' => ∃ r b, e = .returned (.tuple #[r, .bool b]) ∧ Q r b w') :
    Calls Tryz.prog 50 #[.pointer (some ⟨gm, 0, none⟩), .int .i64 4, u, v] w fun e w' => ∃ r b, e = .returned (.tuple #[r, .bool b]) ∧ Q r b w' := by
  have HC := hide C
  obtain ⟨e0, e1, e2, e3⟩ := hE.way
  have hmf := mk_func
  clear C hE
  go_enter Tryz.func50, Tryz.ntmps50
  go_wp2_with fail
  refine (unhide HC).mono ?_
  rintro e w1 ⟨r, b, rfl, h⟩
  have H := hide h
  clear h HC
  go_wp2
  go_ret2
  exact ⟨_, _, rfl, unhide H⟩

set_option maxRecDepth 100000 in
set_option maxHeartbeats 1600000 in
theorem by_five {w : World} {gm gt gk ge g : Nat} {s l m : Int} {T : Tab} (hE : MEng w gm gt gk ge g s l m T) {u v : Value} {Q : Value → Bool → World → Prop}
    (C : Calls Tryz.prog 64 #[.pointer (some ⟨g, 0, none⟩), u, v] w fun e w' => ∃ r b, e = .returned (.tuple #[r, .bool b]) ∧ Q r b w') :
    Calls Tryz.prog 50 #[.pointer (some ⟨gm, 0, none⟩), .int .i64 5, u, v] w fun e w' => ∃ r b, e = .returned (.tuple #[r, .bool b]) ∧ Q r b w' := by
  have HC := hide C
  obtain ⟨e0, e1, e2, e3⟩ := hE.way
  have hmf := mk_func
  clear C hE
  go_enter Tryz.func50, Tryz.ntmps50
  go_wp2_with fail
  refine (unhide HC).mono ?_
  rintro e w1 ⟨r, b, rfl, h⟩
  have H := hide h
  clear h HC
  go_wp2
  go_ret2
  exact ⟨_, _, rfl, unhide H⟩

theorem ceil_k {n k : Nat} (hk : 0 < k) (hn : 0 < n) : ∃ q, n ≤ k * q ∧ k * q < n + k ∧ q ≤ n := by
  refine ⟨(n + k - 1) / k, ?_, ?_, ?_⟩
  · have h1 := Nat.div_add_mod (n + k - 1) k
    have h2 := Nat.mod_lt (n + k - 1) hk
    omega
  · have h1 := Nat.div_add_mod (n + k - 1) k
    omega
  · refine Nat.le_of_lt_succ ((Nat.div_lt_iff_lt_mul hk).2 ?_)
    have : n * 1 ≤ n * k := Nat.mul_le_mul_left n hk
    rw [Nat.succ_mul]
    omega
theorem block_times {w : World} {gm gt gk ge g : Nat} {s l m : Int} {T : Tab} (hE : MEng w gm gt gk ge g s l m T) (hT : TB w) {k : Nat} (IH : TimesSpec k)
    (h0 : 0 ≤ s) (h1 : s + 35184372088832 * ((k : Int) + 2) ≤ 2305843009213693952) (h2 : 0 ≤ l) (h3 : l + 1 + (k : Int) ≤ 100000)
    {ga gb : Option Addr} {b o cap la b' o' cap' lb : Nat} {xs ys : List Nat} (hxl : xs.length = la) (hR : Rep w ga b o cap xs) (hdx : WDig xs) (hyl : ys.length = lb) (hR' : Rep w gb b' o' cap' ys) (hdy : WDig ys) (hla : la ≤ 16384) (hlb : lb ≤ 16384) (ha : 1 ≤ la) (hb : 1 ≤ lb) (hk : k = min la lb) :
    Calls Tryz.prog 52 #[.pointer (some ⟨gm, 0, none⟩), .slice ga la cap, .slice gb lb cap', .int .i64 (k : Int)] w fun e w' => ∃ r, e = .returned r ∧ OneDone w gm gt gk ge g s l m T (wval xs * wval ys) (bcst T.B T.D T.N 2 (max la lb) (min la lb)) (lev k + 1) r w' := by
  obtain ⟨q, q1, q2, q3⟩ := ceil_k (n := max la lb) (k := k) (by omega) (by omega)
  by_cases hsw : la < lb
  · have e1 : k = la := by omega
    have e2 : max la lb = lb := by omega
    have e3 : min la lb = la := by omega
    rw [e2] at q1 q2 q3
    rw [e2, e3]
    subst e1
    obtain rfl := hR'.head (by omega)
    rw [Nat.mul_comm]
    exact blocks_ba w gm gt gk ge g s l m T ga b' o' cap' lb b o cap k q ys xs IH hla (by omega) hlb hsw hE hT h0 h1 h2 h3 hR' hyl hdy hR hxl hdx q1 q2 (by omega)
  · have e1 : k = lb := by omega
    have e2 : max la lb = la := by omega
    have e3 : min la lb = lb := by omega
    rw [e2] at q1 q2 q3
    rw [e2, e3]
    subst e1
    obtain rfl := hR.head (by omega)
    exact blocks_ab w gm gt gk ge g s l m T gb b o cap la b' o' cap' k q xs ys IH hlb (by omega) hla (by omega) hE hT h0 h1 h2 h3 hR hxl hdx hR' hyl hdy q1 q2 (by omega)

end Go.Proofs.YtiekgpphggejcaaGreatDoor

/- times and square of the landed code: rows as they are, by the route of their lengths. -/
namespace Go.Proofs.YtiekgpphggejcaaGreatDoor
open Go.RowKit

theorem rtT_cl (T : Tab) (n m : Int) : rtT T.clamp n m = rtT T n m := by unfold rtT; rw [T.B_clamp, T.D_clamp, T.N_clamp]

set_option maxHeartbeats 1600000 in
theorem tuneRoute_c {T : Tab} {w : World} {g : Nat} (h : TabC w g T) (n m : Int) :
    Calls Tryz.prog 53 #[.pointer (some ⟨g, 0, none⟩), .int .i64 n, .int .i64 m] w fun e w' => e = .returned (.int .i64 (rtT T n m)) ∧ Below w.heap.size w w' := by
  have CR := hide (fun w => tRoute_any T.clamp n m w)
  rw [rtT_cl] at CR
  have c3 : w.cell? ⟨g, 3, none⟩ = some (.int .i64 T.clamp.b) := h 0 (by decide)
  have c4 : w.cell? ⟨g, 4, none⟩ = some (.int .i64 T.clamp.t) := h 1 (by decide)
  have c5 : w.cell? ⟨g, 5, none⟩ = some (.int .i64 T.clamp.n) := h 2 (by decide)
  have c6 : w.cell? ⟨g, 6, none⟩ = some (.int .i64 T.clamp.d) := h 3 (by decide)
  have c7 : w.cell? ⟨g, 7, none⟩ = some (.int .i64 T.clamp.r) := h 4 (by decide)
  have c8 : w.cell? ⟨g, 8, none⟩ = some (.int .i64 T.clamp.l) := h 5 (by decide)
  have c9 : w.cell? ⟨g, 9, none⟩ = some (.int .i64 T.clamp.x) := h 6 (by decide)
  have c10 : w.cell? ⟨g, 10, none⟩ = some (.int .i64 T.clamp.p) := h 7 (by decide)
  have c11 : w.cell? ⟨g, 11, none⟩ = some (.int .i64 T.clamp.k) := h 8 (by decide)
  have c12 : w.cell? ⟨g, 12, none⟩ = some (.int .i64 T.clamp.s) := h 9 (by decide)
  have c13 : w.cell? ⟨g, 13, none⟩ = some (.int .i64 T.clamp.e) := h 10 (by decide)
  clear h
  unfold Tab.val at CR
  generalize T.clamp.b = t0 at CR c3
  generalize T.clamp.t = t1 at CR c4
  generalize T.clamp.n = t2 at CR c5
  generalize T.clamp.d = t3 at CR c6
  generalize T.clamp.r = t4 at CR c7
  generalize T.clamp.l = t5 at CR c8
  generalize T.clamp.x = t6 at CR c9
  generalize T.clamp.p = t7 at CR c10
  generalize T.clamp.k = t8 at CR c11
  generalize T.clamp.s = t9 at CR c12
  generalize T.clamp.e = t10 at CR c13
  go_enter Tryz.func53, Tryz.ntmps53
  go_wp2_with (go_at_call 70; refine (unhide CR _).mono ?_; rintro e w1 ⟨rfl, b1⟩)
  go_ret
  exact ⟨rfl, b1⟩

set_option maxRecDepth 100000 in
set_option maxHeartbeats 1600000 in
theorem times_walk {w : World} {gm gt gk ge g : Nat} {s l m : Int} {T : Tab} (hE : MEng w gm gt gk ge g s l m T) {ga gb : Option Addr} {cap cap' la lb : Nat} (hla : la ≤ 16384) (hlb : lb ≤ 16384) {Q : Value → World → Prop}
    (C : ∀ W, Below w.heap.size w W → Calls Tryz.prog 50 #[.pointer (some ⟨gm, 0, none⟩), .int .i64 (rtT T (la : Int) (lb : Int)), .slice ga la cap, .slice gb lb cap'] W fun e w' => ∃ r b, e = .returned (.tuple #[r, .bool b]) ∧ Q r w') :
    Calls Tryz.prog 37 #[.pointer (some ⟨gm, 0, none⟩), .slice ga la cap, .slice gb lb cap'] w fun e w' => ∃ r, e = .returned r ∧ Q r w' := by
  have HC := hide C
  have CR := hide (tuneRoute_c hE.toom.kara.tab (la : Int) (lb : Int))
  obtain ⟨e0, e1, e2, e3⟩ := hE.way
  obtain ⟨M, hM⟩ : ∃ M, max la lb = M := ⟨_, rfl⟩
  have m1 : max (la : Int) (lb : Int) = (M : Int) := by omega
  have m2 : ¬ 16384 < (M : Int) := by omega
  generalize rtT T (la : Int) (lb : Int) = R at *
  clear C hE hla hlb hM
  go_enter Tryz.func37, Tryz.ntmps37
  go_wp2_with fail
  refine (unhide CR).mono ?_
  rintro e w1 ⟨rfl, b1⟩
  clear CR
  go_wp2_with fail
  refine (unhide HC _ b1).mono ?_
  rintro e w2 ⟨r, b, rfl, h⟩
  have H := hide h
  clear h HC
  go_wp2
  go_ret
  exact ⟨_, rfl, unhide H⟩

set_option maxRecDepth 100000 in
set_option maxHeartbeats 1600000 in
theorem msq_one {w : World} {gm gt gk ge g : Nat} {s l m : Int} {T : Tab} (hE : MEng w gm gt gk ge g s l m T) {ga : Option Addr} {cap la : Nat} (h : rtT T (la : Int) (la : Int) = 1) {Q : Value → World → Prop}
    (C : ∀ W, Below w.heap.size w W → Calls Tryz.prog 55 #[.pointer (some ⟨ge, 0, none⟩), .slice ga la cap] W fun e w' => ∃ r, e = .returned r ∧ Q r w') :
    Calls Tryz.prog 45 #[.pointer (some ⟨gm, 0, none⟩), .slice ga la cap] w fun e w' => ∃ r, e = .returned r ∧ Q r w' := by
  have HC := hide C
  have CR := hide (tuneRoute_c hE.toom.kara.tab (la : Int) (la : Int))
  rw [h] at CR
  have HE := hide (fun W (b : Below w.heap.size w W) => (hE.next b).way)
  obtain ⟨e0, e1, e2, e3⟩ := hE.way
  have hmf := mk_func
  clear C hE h
  go_enter Tryz.func45, Tryz.ntmps45
  go_wp2_with fail
  refine (unhide CR).mono ?_
  rintro e w1 ⟨rfl, b1⟩
  clear CR e0 e1 e2 e3
  obtain ⟨e0, e1, e2, e3⟩ := unhide HE _ b1
  go_wp2_with fail
  refine (unhide HC _ b1).mono ?_
  rintro e w2 ⟨r, rfl, h⟩
  have H := hide h
  clear h HC
  go_wp2
  go_ret
  exact ⟨_, rfl, unhide H⟩

set_option maxRecDepth 100000 in
set_option maxHeartbeats 1600000 in
theorem msq_three {w : World} {gm gt gk ge g : Nat} {s l m : Int} {T : Tab} (hE : MEng w gm gt gk ge g s l m T) {ga : Option Addr} {cap la : Nat} (h : rtT T (la : Int) (la : Int) = 3) {Q : Value → World → Prop}
    (C : ∀ W, Below w.heap.size w W → Calls Tryz.prog 56 #[.pointer (some ⟨gk, 0, none⟩), .slice ga la cap, .func (.func 45) #[.pointer (some ⟨gm, 0, none⟩)] #[]] W fun e w' => ∃ r b, e = .returned (.tuple #[r, .bool b]) ∧ Q r w') :
    Calls Tryz.prog 45 #[.pointer (some ⟨gm, 0, none⟩), .slice ga la cap] w fun e w' => ∃ r, e = .returned r ∧ Q r w' := by
  have HC := hide C
  have CR := hide (tuneRoute_c hE.toom.kara.tab (la : Int) (la : Int))
  rw [h] at CR
  have HE := hide (fun W (b : Below w.heap.size w W) => (hE.next b).way)
  obtain ⟨e0, e1, e2, e3⟩ := hE.way
  have hmf := mk_func
  clear C hE h
  go_enter Tryz.func45, Tryz.ntmps45
  go_wp2_with fail
  refine (unhide CR).mono ?_
  rintro e w1 ⟨rfl, b1⟩
  clear CR e0 e1 e2 e3
  obtain ⟨e0, e1, e2, e3⟩ := unhide HE _ b1
  go_wp2_with fail
  refine (unhide HC _ b1).mono ?_
  rintro e w2 ⟨r, b, rfl, h⟩
  have H := hide h
  clear h HC
  go_wp2
  go_ret
  exact ⟨_, rfl, unhide H⟩

set_option maxRecDepth 100000 in
set_option maxHeartbeats 1600000 in
theorem msq_four {w : World} {gm gt gk ge g : Nat} {s l m : Int} {T : Tab} (hE : MEng w gm gt gk ge g s l m T) {ga : Option Addr} {cap la : Nat} (h : rtT T (la : Int) (la : Int) = 4) {Q : Value → World → Prop}
    (C : ∀ W, Below w.heap.size w W → Calls Tryz.prog 57 #[.pointer (some ⟨gt, 0, none⟩), .slice ga la cap, .func (.func 45) #[.pointer (some ⟨gm, 0, none⟩)] #[]] W fun e w' => ∃ r b, e = .returned (.tuple #[r, .bool b]) ∧ Q r w') :
    Calls Tryz.prog 45 #[.pointer (some ⟨gm, 0, none⟩), .slice ga la cap] w fun e w' => ∃ r, e = .returned r ∧ Q r w' := by
  have HC := hide C
  have CR := hide (tuneRoute_c hE.toom.kara.tab (la : Int) (la : Int))
  rw [h] at CR
  have HE := hide (fun W (b : Below w.heap.size w W) => (hE.next b).way)
  obtain ⟨e0, e1, e2, e3⟩ := hE.way
  have hmf := mk_func
  clear C hE h
  go_enter Tryz.func45, Tryz.ntmps45
  go_wp2_with fail
  refine (unhide CR).mono ?_
  rintro e w1 ⟨rfl, b1⟩
  clear CR e0 e1 e2 e3
  obtain ⟨e0, e1, e2, e3⟩ := unhide HE _ b1
  go_wp2_with fail
  refine (unhide HC _ b1).mono ?_
  rintro e w2 ⟨r, b, rfl, h⟩
  have H := hide h
  clear h HC
  go_wp2
  go_ret
  exact ⟨_, rfl, unhide H⟩

set_option maxRecDepth 100000 in
set_option maxHeartbeats 1600000 in
theorem msq_five {w : World} {gm gt gk ge g : Nat} {s l m : Int} {T : Tab} (hE : MEng w gm gt gk ge g s l m T) {ga : Option Addr} {cap la : Nat} (h : rtT T (la : Int) (la : Int) = 5) {Q : Value → World → Prop}
    (C : ∀ W, Below w.heap.size w W → Calls Tryz.prog 58 #[.pointer (some ⟨g, 0, none⟩), .slice ga la cap] W fun e w' => ∃ r b, e = .returned (.tuple #[r, .bool b]) ∧ Q r w') :
    Calls Tryz.prog 45 #[.pointer (some ⟨gm, 0, none⟩), .slice ga la cap] w fun e w' => ∃ r, e = .returned r ∧ Q r w' := by
  have HC := hide C
  have CR := hide (tuneRoute_c hE.toom.kara.tab (la : Int) (la : Int))
  rw [h] at CR
  have HE := hide (fun W (b : Below w.heap.size w W) => (hE.next b).way)
  obtain ⟨e0, e1, e2, e3⟩ := hE.way
  have hmf := mk_func
  clear C hE h
  go_enter Tryz.func45, Tryz.ntmps45
  go_wp2_with fail
  refine (unhide CR).mono ?_
  rintro e w1 ⟨rfl, b1⟩
  clear CR e0 e1 e2 e3
  obtain ⟨e0, e1, e2, e3⟩ := unhide HE _ b1
  go_wp2_with fail
  refine (unhide HC _ b1).mono ?_
  rintro e w2 ⟨r, b, rfl, h⟩
  have H := hide h
  clear h HC
  go_wp2
  go_ret
  exact ⟨_, rfl, unhide H⟩

set_option maxRecDepth 100000 in
set_option maxHeartbeats 1600000 in
theorem msq_none {w : World} {gm gt gk ge g : Nat} {s l m : Int} {T : Tab} (hE : MEng w gm gt gk ge g s l m T) {ga : Option Addr} {cap la : Nat} (h : rtT T (la : Int) (la : Int) = 0) {Q : Value → World → Prop}
    (C : ∀ W, Below w.heap.size w W → Calls Tryz.prog 37 #[.pointer (some ⟨gm, 0, none⟩), .slice ga la cap, .slice ga la cap] W fun e w' => ∃ r, e = .returned r ∧ Q r w') :
    Calls Tryz.prog 45 #[.pointer (some ⟨gm, 0, none⟩), .slice ga la cap] w fun e w' => ∃ r, e = .returned r ∧ Q r w' := by
  have HC := hide C
  have CR := hide (tuneRoute_c hE.toom.kara.tab (la : Int) (la : Int))
  rw [h] at CR
  have HE := hide (fun W (b : Below w.heap.size w W) => (hE.next b).way)
  obtain ⟨e0, e1, e2, e3⟩ := hE.way
  have hmf := mk_func
  clear C hE h
  go_enter Tryz.func45, Tryz.ntmps45
  go_wp2_with fail
  refine (unhide CR).mono ?_
  rintro e w1 ⟨rfl, b1⟩
  clear CR e0 e1 e2 e3
  obtain ⟨e0, e1, e2, e3⟩ := unhide HE _ b1
  go_wp2_with fail
  refine (unhide HC _ b1).mono ?_
  rintro e w2 ⟨r, rfl, h⟩
  have H := hide h
  clear h HC
  go_wp2
  go_ret
  exact ⟨_, rfl, unhide H⟩

theorem OneDone.back {w W w' : World} {gm gt gk ge g : Nat} {s l m : Int} {T : Tab} {P C L C' L' : Nat} {r : Value} (b : Below w.heap.size w W) (h : OneDone W gm gt gk ge g s l m T P C L r w') (hC : C = C') (hL : L ≤ L') : OneDone w gm gt gk ge g s l m T P C' L' r w' := by
  obtain ⟨m', h1, h2, h3, h4, h5⟩ := h
  subst hC
  exact ⟨m', h1.mono b.size, h2, h3, by omega, (Out.of_below b).trans h5⟩
theorem rtT_mm (T : Tab) {n m : Nat} (hn : n ≤ 16384) (hm : m ≤ 16384) : rtT T (n : Int) (m : Int) = (rt T.B T.D T.N (max n m) (min n m) : Int) := by
  by_cases h : m ≤ n
  · rw [Nat.max_eq_left h, Nat.min_eq_right h, rtT_nat T h hn]
  · rw [Nat.max_eq_right (by omega), Nat.min_eq_left (by omega), rtT_comm, rtT_nat T (by omega) hm]

theorem times_all (N : Nat) : N ≤ 16384 → TimesSpec N := by
  induction N using Nat.strongRecOn with
  | _ N ih =>
    intro hN w gm gt gk ge g s l m T ga gb b o cap la b' o' cap' lb xs ys hE hT h0 h1 h2 h3 hxl hR hdx hyl hR' hdy hla hlb
    refine (times_walk hE (by omega) (by omega) (Q := OneDone w gm gt gk ge g s l m T (wval xs * wval ys) (cst T.B T.D T.N (max la lb) (min la lb)) (lev (max la lb))) (fun W bl => ?_)).mono ?_
    · have E := hE.next bl
      have tb := hT.next bl
      have rX := hR.next bl
      have rY := hR'.next bl
      have hc := bcst_cst (n := max la lb) (m := min la lb) T.ent (by omega)
      have b1 := T.ent.b1
      have t1 := T.ent.t1
      rw [rtT_mm T (by omega) (by omega)]
      rcases rt_ways (max la lb) (min la lb) (by omega) T.ent with ⟨r, k1⟩ | ⟨r, k1, k2⟩ | ⟨r, k1, k2⟩ | ⟨r, k1, k2⟩ | ⟨r, k1, _, k2⟩ | ⟨r, k1, k2, k3, k4⟩
      · rw [r] at hc ⊢
        refine (by_none W gm _ _ _ (by omega)).mono ?_
        rintro e w' ⟨rfl, rfl⟩
        have hz : wval xs * wval ys = 0 := by
          rcases (show la = 0 ∨ lb = 0 by omega) with h | h
          · rw [List.length_eq_zero_iff.1 (by omega : xs.length = 0)]; simp [wval]
          · rw [List.length_eq_zero_iff.1 (by omega : ys.length = 0)]; simp [wval]
        refine ⟨_, _, rfl, OneDone.back bl (C := 0) (L := 0) ⟨m, by rw [hz]; exact newW_nil _ _, by rw [Int.natCast_zero, Int.add_zero]; exact E, Int.le_refl _, by omega, Out.refl _ _⟩ (by rw [← hc]; simp [bcst]) (Nat.zero_le _)⟩
      · rw [r] at hc ⊢
        refine (by_one E (school_times E h0 (by omega) hxl rX hdx hyl rY hdy (by omega) (by omega))).mono ?_
        rintro e w' ⟨v, rfl, hd⟩
        exact ⟨v, true, rfl, hd.back bl hc (Nat.zero_le _)⟩
      · rw [r] at hc ⊢
        refine (by_two E rfl (by omega) (by omega) (block_times E tb (ih (min la lb) (by omega) (by omega)) h0 (by omega) h2 (by omega) hxl rX hdx hyl rY hdy (by omega) (by omega) (by omega) (by omega) rfl)).mono ?_
        rintro e w' ⟨v, rfl, hd⟩
        exact ⟨v, true, rfl, hd.back bl hc (lev_down (by omega) (by omega) (by omega))⟩
      · rw [r] at hc ⊢
        refine (by_three E (Q := fun v b w' => b = true ∧ OneDone W gm gt gk ge g s l m T (wval xs * wval ys) (bcst T.B T.D T.N 3 (max la lb) (min la lb)) (lev ((max la lb + 1) / 2 + 1) + 1) v w') ((kara_times (ih ((max la lb + 1) / 2 + 1) (by omega) (by omega)) (by omega) E tb h0 (by omega) h2 (by omega) hxl rX hdx hyl rY hdy (by omega) (by omega) rfl (by omega) (Nat.le_refl _)).mono fun e w' hd => ?_)).mono ?_
        · obtain ⟨v, rfl, hz⟩ := byDone_iff hd
          exact ⟨v, true, rfl, rfl, hz⟩
        · rintro e w' ⟨v, bb, rfl, rfl, hd⟩
          exact ⟨v, true, rfl, hd.back bl hc (lev_down (by omega) (by omega) (by omega))⟩
      · rw [r] at hc ⊢
        refine (by_four E (Q := fun v b w' => b = true ∧ OneDone W gm gt gk ge g s l m T (wval xs * wval ys) (bcst T.B T.D T.N 4 (max la lb) (min la lb)) (lev ((max la lb + 2) / 3 + 1) + 1) v w') ((toom_times (ih ((max la lb + 2) / 3 + 1) (by omega) (by omega)) (by omega) E tb h0 (by omega) h2 (by omega) hxl rX hdx hyl rY hdy (by omega) (by omega) rfl (by omega) (Nat.le_refl _)).mono fun e w' hd => ?_)).mono ?_
        · obtain ⟨v, rfl, hz⟩ := byDone_iff hd
          exact ⟨v, true, rfl, rfl, hz⟩
        · rintro e w' ⟨v, bb, rfl, rfl, hd⟩
          exact ⟨v, true, rfl, hd.back bl hc (lev_down (by omega) (by omega) (by omega))⟩
      · rw [r] at hc ⊢
        refine (by_five E (Q := fun v b w' => b = true ∧ OneDone W gm gt gk ge g s l m T (wval xs * wval ys) (bcst T.B T.D T.N 5 (max la lb) (min la lb)) 0 v w') ((conv_times E tb h0 (by omega) hxl rX hdx hyl rY hdy (by omega) (by omega) (by omega) (by omega)).mono fun e w' hd => ?_)).mono ?_
        · obtain ⟨v, rfl, hz⟩ := byDone_iff hd
          exact ⟨v, true, rfl, rfl, hz⟩
        · rintro e w' ⟨v, bb, rfl, rfl, hd⟩
          exact ⟨v, true, rfl, hd.back bl hc (Nat.zero_le _)⟩
    · rintro e w' ⟨r, rfl, m', hd⟩
      exact ⟨r, m', rfl, hd⟩

theorem bsqt_sqt {B D N n : Nat} (e : Ent B D N) : bsqt B D N (rt B D N n n) n = sqt B D N n := by
  have e1 := e.b1
  unfold bsqt
  rcases rt_ways n n (Nat.le_refl _) e with ⟨r, _⟩ | ⟨r, _, _⟩ | ⟨r, h1, h2⟩ | ⟨r, h1, h2⟩ | ⟨r, h1, _, h2⟩ | ⟨r, _, _, _, _⟩
  · rw [sqt_zero (Or.inl r), r]; simp
  · rw [sqt_one r, r]; simp
  · omega
  · rw [sqt_three e r h1, r]; simp
  · rw [sqt_four e r h1, r]; simp
  · rw [sqt_five r, r]; simp

theorem square_all (N : Nat) : N ≤ 16384 → SquareSpec N := by
  induction N using Nat.strongRecOn with
  | _ N ih =>
    intro hN w gm gt gk ge g s l m T ga b o cap la xs hE hT h0 h1 h2 h3 hxl hR hdx hla
    suffices H : Calls Tryz.prog 45 #[.pointer (some ⟨gm, 0, none⟩), .slice ga la cap] w fun e w' => ∃ r, e = .returned r ∧ OneDone w gm gt gk ge g s l m T (wval xs * wval xs) (sqt T.B T.D T.N la) (lev la) r w' by
      refine H.mono ?_
      rintro e w' ⟨r, rfl, m', hd⟩
      exact ⟨r, m', rfl, hd⟩
    have hc := bsqt_sqt (n := la) T.ent
    have b1 := T.ent.b1
    have t1 := T.ent.t1
    have hrt := rtT_mm T (n := la) (m := la) (by omega) (by omega)
    rw [Nat.max_self, Nat.min_self] at hrt
    rcases rt_ways la la (Nat.le_refl _) T.ent with ⟨r, k1⟩ | ⟨r, k1, k2⟩ | ⟨r, k1, k2⟩ | ⟨r, k1, k2⟩ | ⟨r, k1, _, k2⟩ | ⟨r, k1, k2, k3, k4⟩
    · rw [r] at hc hrt
      refine msq_none hE hrt (fun W bl => ?_)
      refine (times_all N hN W gm gt gk ge g s l m T ga ga b o cap la b o cap la xs xs (hE.next bl) (hT.next bl) h0 h1 h2 h3 hxl (hR.next bl) hdx hxl (hR.next bl) hdx hla hla).mono ?_
      rintro e w' ⟨v, m', rfl, hd⟩
      refine ⟨v, rfl, OneDone.back bl ⟨m', hd⟩ ?_ (by rw [Nat.max_self]; exact Nat.le_refl _)⟩
      rw [← hc, Nat.max_self, Nat.min_self, cst_zero r]; simp [bsqt]
    · rw [r] at hc hrt
      refine msq_one hE hrt (fun W bl => ?_)
      refine (school_sq (hE.next bl) h0 (by omega) hxl (hR.next bl) hdx (by omega)).mono ?_
      rintro e w' ⟨v, rfl, hd⟩
      exact ⟨v, rfl, hd.back bl hc (Nat.zero_le _)⟩
    · omega
    · rw [r] at hc hrt
      refine msq_three hE hrt (fun W bl => ?_)
      refine (kara_sq (ih ((la + 1) / 2 + 1) (by omega) (by omega)) (by omega) (hE.next bl) (hT.next bl) h0 (by omega) h2 (by omega) hxl (hR.next bl) hdx (by omega) rfl (by omega) (Nat.le_refl _)).mono ?_
      intro e w' hd
      obtain ⟨v, rfl, hz⟩ := byDone_iff hd
      exact ⟨v, true, rfl, hz.back bl hc (lev_down (by omega) (by omega) (by omega))⟩
    · rw [r] at hc hrt
      refine msq_four hE hrt (fun W bl => ?_)
      refine (toom_sq (ih ((la + 2) / 3 + 1) (by omega) (by omega)) (by omega) (hE.next bl) (hT.next bl) h0 (by omega) h2 (by omega) hxl (hR.next bl) hdx (by omega) rfl (by omega) (Nat.le_refl _)).mono ?_
      intro e w' hd
      obtain ⟨v, rfl, hz⟩ := byDone_iff hd
      exact ⟨v, true, rfl, hz.back bl hc (lev_down (by omega) (by omega) (by omega))⟩
    · rw [r] at hc hrt
      refine msq_five hE hrt (fun W bl => ?_)
      refine (conv_sq (hE.next bl) (hT.next bl) h0 (by omega) hxl (hR.next bl) hdx (by omega) (by omega)).mono ?_
      intro e w' hd
      obtain ⟨v, rfl, hz⟩ := byDone_iff hd
      exact ⟨v, true, rfl, hz.back bl hc (Nat.zero_le _)⟩

end Go.Proofs.YtiekgpphggejcaaGreatDoor

/- New, Mul, Sqr and By of the landed package mul. -/
namespace Go.Proofs.YtiekgpphggejcaaGreatDoor
open Go.RowKit

set_option maxHeartbeats 1600000 in
theorem spec_mnew : SpecMNew := by
  intro T w
  have CC := hide (fun w => spec_tnew T w)
  unfold Tab.val at CC ⊢
  go_enter Tryz.func10, Tryz.ntmps10
  go_wp2_with fail
  refine (unhide CC _).mono ?_
  rintro e w1 ⟨gt, gk, ge, g, rfl, E1, hgt, hgk, hge, hg, b1⟩
  have hg' : w.heap.size ≤ g := Nat.le_trans (by simp) hg
  have hge' : w.heap.size ≤ ge := Nat.le_trans (by simp) hge
  have hgk' : w.heap.size ≤ gk := Nat.le_trans (by simp) hgk
  have hgt' : w.heap.size ≤ gt := Nat.le_trans (by simp) hgt
  have b0 := hide (bstep ((Below.refl w.heap.size w).alloc (Nat.le_refl _) _) b1)
  have tl := E1.kara.eng.met.lt
  have HE := hide E1
  clear CC b1 hg E1 hge hgk hgt
  go_wp2
  go_ret
  refine ⟨w1.heap.size, gt, gk, ge, g, rfl, ⟨?_, (unhide HE).next ((Below.refl _ _).alloc (Nat.le_refl _) _), by omega⟩, ⟨(unhide b0).size, hgt', hgk', hge', hg'⟩, (unhide b0).alloc (unhide b0).size _⟩
  exact cell_of_row _ w1.heap.size 0 _ _ (0, 0) (heap_alloc_new w1 _)

set_option maxHeartbeats 800000 in
theorem mtrim_any (w : World) (ga : Option Addr) (b o cap n m : Nat) (xs : List Nat) (hl : xs.length = n) (hn : n ≤ 1099511627776) (hR : Rep w ga b o cap xs) (hm : m = nlen xs n) :
    Calls Tryz.prog 38 #[.slice ga n cap] w fun e w' => e = .returned (.slice ga m cap) ∧ w' = w := by
  have hmn : m ≤ n := by rw [hm]; exact nlen_le xs n
  have hcap : n ≤ cap := by have := hR.room; omega
  have CL := hide (fun w' (h : w' = w) => h ▸ len_any w ga b o cap n xs hl hn hR)
  rw [← hm] at CL
  clear hm hR
  go_enter Tryz.func38, Tryz.ntmps38
  go_wp2_with fail
  refine (unhide CL _ rfl).mono ?_
  rintro e w' ⟨rfl, rfl⟩
  go_wp2
  go_ret
  exact ⟨rfl, rfl⟩
/-- A row without its zero words on top. -/
theorem mtrim_in {w : World} {v : Value} {n : Nat} (h : InM w v n) : ∃ ga b o cap xs, xs.length = wl n ∧ Rep w ga b o cap xs ∧ WDig xs ∧ wval xs = n ∧ wl n ≤ 16384 ∧ (∃ l, v = .slice ga l cap) ∧ Calls Tryz.prog 38 #[v] w fun e w' => e = .returned (.slice ga (wl n) cap) ∧ w' = w := by
  obtain ⟨ga, b, o, cap, xs, rfl, hr, hd, hv, hl⟩ := h
  have e := nlen_wl hd
  have hle := wl_le_len hd
  rw [hv] at e hle
  refine ⟨ga, b, o, cap, xs.take (wl n), by simp; omega, hr.take _ hle, wDig_take hd _, ?_, by omega, ⟨_, rfl⟩, mtrim_any w ga b o cap xs.length (wl n) xs rfl (by omega) hr e.symm⟩
  rw [← e, nlen_wval, List.take_length, hv]
theorem costT_mm2 (T : Tab) {n m : Nat} (hn : n ≤ 16384) (hm : m ≤ 16384) : costT T (n : Int) (m : Int) = (cst T.B T.D T.N (max n m) (min n m) : Nat) := by
  by_cases h : m ≤ n
  · rw [Nat.max_eq_left h, Nat.min_eq_right h, costT_nat T h hn]
  · rw [Nat.max_eq_right (by omega), Nat.min_eq_left (by omega), costT_comm, costT_nat T (by omega) hm]

set_option maxHeartbeats 1600000 in
theorem mmul_any (w : World) (gm gt gk ge g : Nat) (s l m : Int) (T : Tab) (u v : Value) (A C : Nat)
    (hE : MEng w gm gt gk ge g s l m T) (hT : TB w) (h0 : 0 ≤ s) (h1 : s ≤ 1154047404513689600) (h2 : 0 ≤ l) (h3 : l ≤ 1000) (hu : InM w u A) (hv : InM w v C) :
    Calls Tryz.prog 12 #[.pointer (some ⟨gm, 0, none⟩), u, v] w fun e w' => ∃ r m', e = .returned r ∧ NewW w.heap.size w' r (A * C) ∧ MEng w' gm gt gk ge g (s + costT T (wl A : Int) (wl C : Int)) l m' T ∧ m ≤ m' ∧ m' ≤ max m (l + (dpt (max (wl A) (wl C)) : Int)) ∧ Out (· = g) w w' := by
  obtain ⟨ga, b, o, cap, xs, xl, rX, dX, vX, lX, ⟨lu, rfl⟩, CX⟩ := mtrim_in hu
  obtain ⟨gb, b', o', cap', ys, yl, rY, dY, vY, lY, ⟨lv, rfl⟩, CY⟩ := mtrim_in hv
  have CT := hide (times_all 16384 (by omega) w gm gt gk ge g s l m T ga gb b o cap (wl A) b' o' cap' (wl C) xs ys hE hT h0 (by omega) h2 (by omega) xl rX dX yl rY dY lX lY)
  have HCX := hide CX
  have HCY := hide CY
  rw [vX, vY, ← costT_mm2 T lX lY] at CT
  have hd := lev_dpt (n := max (wl A) (wl C)) (by omega)
  suffices H : Calls Tryz.prog 12 #[.pointer (some ⟨gm, 0, none⟩), .slice ga lu cap, .slice gb lv cap'] w fun e w' => ∃ r m', e = .returned r ∧ NewW w.heap.size w' r (A * C) ∧ MEng w' gm gt gk ge g (s + costT T (wl A : Int) (wl C : Int)) l m' T ∧ m ≤ m' ∧ m' ≤ max m (l + (lev (max (wl A) (wl C)) : Nat)) ∧ Out (· = g) w w' by
    refine H.mono ?_
    rintro e w' ⟨r, m', k1, k2, k3, k4, k5, k6⟩
    exact ⟨r, m', k1, k2, k3, k4, by omega, k6⟩
  generalize costT T (wl A : Int) (wl C : Int) = K at *
  generalize lev (max (wl A) (wl C)) = L at *
  generalize wl A = la at *
  generalize wl C = lb at *
  clear hu hv rX rY dX dY vX vY CX CY xl yl hd hE hT h0 h1 h2 h3
  go_enter Tryz.func12, Tryz.ntmps12
  go_wp2_with fail
  refine (unhide HCX).mono ?_
  rintro e w1 ⟨rfl, hw⟩
  obtain rfl := hw.symm
  clear hw
  go_wp2_with fail
  refine (unhide HCY).mono ?_
  rintro e w1 ⟨rfl, hw⟩
  obtain rfl := hw.symm
  clear hw
  go_wp2_with fail
  refine (unhide CT).mono ?_
  rintro e w1 ⟨r, m', rfl, h⟩
  have H := hide h
  clear h CT
  go_wp2
  go_ret
  exact ⟨r, m', rfl, unhide H⟩
theorem spec_mmul : SpecMMul := fun w gm gt gk ge g s l m T u v A C hE hT h0 h1 h2 h3 hu hv => mmul_any w gm gt gk ge g s l m T u v A C hE hT h0 (by omega) h2 h3 hu hv

set_option maxHeartbeats 1600000 in
theorem spec_msqr : SpecMSqr := by
  intro w gm gt gk ge g s l m T u A hE hT h0 h1 h2 h3 hu
  obtain ⟨ga, b, o, cap, xs, xl, rX, dX, vX, lX, ⟨lu, rfl⟩, CX⟩ := mtrim_in hu
  have CT := hide (square_all 16384 (by omega) w gm gt gk ge g s l m T ga b o cap (wl A) xs hE hT h0 (by omega) h2 (by omega) xl rX dX lX)
  have HCX := hide CX
  rw [vX, ← sqT_nat T lX] at CT
  have hd := lev_dpt (n := wl A) (by omega)
  suffices H : Calls Tryz.prog 25 #[.pointer (some ⟨gm, 0, none⟩), .slice ga lu cap] w fun e w' => ∃ r m', e = .returned r ∧ NewW w.heap.size w' r (A * A) ∧ MEng w' gm gt gk ge g (s + sqT T (wl A : Int)) l m' T ∧ m ≤ m' ∧ m' ≤ max m (l + (lev (wl A) : Nat)) ∧ Out (· = g) w w' by
    refine H.mono ?_
    rintro e w' ⟨r, m', k1, k2, k3, k4, k5, k6⟩
    exact ⟨r, m', k1, k2, k3, k4, by omega, k6⟩
  generalize sqT T (wl A : Int) = K at *
  generalize lev (wl A) = L at *
  generalize wl A = la at *
  clear hu rX dX vX CX xl hd hE hT h0 h1 h2 h3
  go_enter Tryz.func25, Tryz.ntmps25
  go_wp2_with fail
  refine (unhide HCX).mono ?_
  rintro e w1 ⟨rfl, hw⟩
  obtain rfl := hw.symm
  clear hw
  go_wp2_with fail
  refine (unhide CT).mono ?_
  rintro e w1 ⟨r, m', rfl, h⟩
  have H := hide h
  clear h CT
  go_wp2
  go_ret
  exact ⟨r, m', rfl, unhide H⟩

end Go.Proofs.YtiekgpphggejcaaGreatDoor

/- Product of the landed package mul: halves of a list. -/
namespace Go.Proofs.YtiekgpphggejcaaGreatDoor
open Go.RowKit

theorem fold_mul : ∀ (ys : List Nat) (a : Nat), ys.foldl (· * ·) a = a * prN ys
  | [], a => by simp [prN]
  | y :: ys, a => by
    unfold prN
    rw [List.foldl_cons, List.foldl_cons, fold_mul ys (a * y), fold_mul ys (1 * y), Nat.one_mul, Nat.mul_assoc]
theorem prN_split (ns : List Nat) (q : Nat) : prN (ns.take q) * prN (ns.drop q) = prN ns := by
  have e : prN (ns.take q ++ ns.drop q) = prN (ns.take q) * prN (ns.drop q) := by
    show List.foldl (· * ·) 1 (ns.take q ++ ns.drop q) = _
    rw [List.foldl_append, fold_mul (ns.drop q) (List.foldl (· * ·) 1 (ns.take q))]
    rfl
  rw [List.take_append_drop] at e
  exact e.symm
theorem prN_zero : ∀ {ns : List Nat} {j : Nat}, j < ns.length → ns.getD j 0 = 0 → prN ns = 0
  | n :: ns, 0, _, h => by
    have h : n = 0 := by simpa using h
    subst h
    unfold prN
    rw [List.foldl_cons, fold_mul, Nat.mul_zero, Nat.zero_mul]
  | n :: ns, j + 1, hj, h => by
    have := prN_zero (ns := ns) (j := j) (by simpa using hj) (by simpa using h)
    unfold prN
    rw [List.foldl_cons, fold_mul, this, Nat.mul_zero]
theorem prN_lt2 {ns : List Nat} {K n : Nat} (hn : ns.length = n) (h : ∀ j, j < n → ns.getD j 0 < 18446744073709551616 ^ K) : prN ns < 18446744073709551616 ^ (K * n + 1) := by
  have := prN_lt (ns := ns) (K := K) (fun j hj => h j (by omega)) ns.length (Nat.le_refl _)
  rw [List.take_length, hn] at this
  exact this
theorem getD_take_v {vs : List Value} {q j : Nat} (h : j < q) : (vs.take q).getD j undef = vs.getD j undef := by
  simp [List.getD_eq_getElem?_getD, List.getElem?_take_of_lt h]
theorem getD_take_n {ns : List Nat} {q j : Nat} (h : j < q) : (ns.take q).getD j 0 = ns.getD j 0 := by
  simp [List.getD_eq_getElem?_getD, List.getElem?_take_of_lt h]
theorem getD_drop_v (vs : List Value) (q j : Nat) : (vs.drop q).getD j undef = vs.getD (q + j) undef := by
  simp [List.getD_eq_getElem?_getD, List.getElem?_drop]
theorem getD_drop_n (ns : List Nat) (q j : Nat) : (ns.drop q).getD j 0 = ns.getD (q + j) 0 := by
  simp [List.getD_eq_getElem?_getD, List.getElem?_drop]
/-- Rows of at most MaxWords words each, handed in as a list. -/
structure PM (w : World) (gp : Option Addr) (bp op : Nat) (vs : List Value) (ns : List Nat) (np c : Nat) : Prop where
  lv : vs.length = np
  parts : Parts w gp bp op vs ns
  small : ∀ j, j < np → ns.getD j 0 < 18446744073709551616 ^ c
  each : ∀ j, j < np → InM w (vs.getD j undef) (ns.getD j 0)
theorem PM.take {w : World} {gp : Option Addr} {bp op np c : Nat} {vs : List Value} {ns : List Nat} (h : PM w gp bp op vs ns np c) (q : Nat) (hq : q ≤ np) : PM w gp bp op (vs.take q) (ns.take q) q c := by
  have h1 := h.lv
  have h2 := h.parts.len
  have hl : (vs.take q).length = q := by simp; omega
  refine ⟨hl, ⟨fun h0 => h.parts.head (by omega), by simp; omega, fun j hj => ?_, fun j hj => ?_⟩, fun j hj => ?_, fun j hj => ?_⟩
  · rw [getD_take_v (by omega)]; exact h.parts.cell j (by omega)
  · rw [getD_take_v (by omega), getD_take_n (by omega)]; exact h.parts.each j (by omega)
  · rw [getD_take_n hj]; exact h.small j (by omega)
  · rw [getD_take_v hj, getD_take_n hj]; exact h.each j (by omega)
theorem PM.drop {w : World} {gp : Option Addr} {bp op np c : Nat} {vs : List Value} {ns : List Nat} (h : PM w gp bp op vs ns np c) (q n : Nat) (hq : q + n = np) : PM w (some ⟨bp, op + q, none⟩) bp (op + q) (vs.drop q) (ns.drop q) n c := by
  have h1 := h.lv
  have h2 := h.parts.len
  have hl : (vs.drop q).length = n := by simp; omega
  refine ⟨hl, ⟨fun h0 => rfl, by simp; omega, fun j hj => ?_, fun j hj => ?_⟩, fun j hj => ?_, fun j hj => ?_⟩
  · rw [getD_drop_v, Nat.add_assoc]; exact h.parts.cell (q + j) (by omega)
  · rw [getD_drop_v, getD_drop_n]; exact h.parts.each (q + j) (by omega)
  · rw [getD_drop_n]; exact h.small (q + j) (by omega)
  · rw [getD_drop_v, getD_drop_n]; exact h.each (q + j) (by omega)
theorem PM.out {w w' : World} {gp : Option Addr} {bp op np c : Nat} {vs : List Value} {ns : List Nat} {gm gt gk ge g : Nat} {s l m : Int} {T : Tab} (h : PM w gp bp op vs ns np c) (hE : MEng w gm gt gk ge g s l m T) (o : Out (· = g) w w') : PM w' gp bp op vs ns np c := by
  have h1 := h.lv
  refine ⟨h1, ⟨h.parts.head, h.parts.len, fun j hj => hE.cell o (h.parts.cell j hj) rfl (fun z e => ?_), fun j hj => (hE.inM o (h.each j (by omega))).inW⟩, h.small, fun j hj => hE.inM o (h.each j hj)⟩
  obtain ⟨ga, b, oo, cap, xs, hv, _⟩ := h.each j (by omega)
  rw [hv] at e
  cases e
theorem PM.next {w w' : World} {gp : Option Addr} {bp op np c : Nat} {vs : List Value} {ns : List Nat} (h : PM w gp bp op vs ns np c) (b : Below w.heap.size w w') : PM w' gp bp op vs ns np c :=
  ⟨h.lv, ⟨h.parts.head, h.parts.len, fun j hj => (b.cell (World.block_lt_of_cell? _ _ (h.parts.cell j hj))).trans (h.parts.cell j hj), fun j hj => (h.parts.each j hj).next b⟩, h.small, fun j hj => (h.each j hj).next b⟩

/-- What the product of a list leaves. -/
def AllDone (w : World) (gm gt gk ge g : Nat) (s l : Int) (T : Tab) (N n : Nat) (r : Value) (w' : World) : Prop :=
  ∃ s' m', NewW w.heap.size w' r N ∧ MEng w' gm gt gk ge g s' l m' T ∧ s ≤ s' ∧ s' ≤ s + 4294967296 * ((n - 1 : Nat) : Int) ∧ Out (· = g) w w'
def AllAt (np : Nat) : Prop := ∀ (w : World) (gm gt gk ge g : Nat) (s l m : Int) (T : Tab) (gp : Option Addr) (bp op cp c : Nat) (vs : List Value) (ns : List Nat),
  MEng w gm gt gk ge g s l m T → TB w → 0 ≤ s → s + 4294967296 * (np : Int) ≤ 1154047404513689600 → 0 ≤ l → l ≤ 1000 → PM w gp bp op vs ns np c → np * c ≤ 8000 → np ≤ cp → np ≤ 1000 →
  Calls Tryz.prog 48 #[.pointer (some ⟨gm, 0, none⟩), .slice gp np cp] w fun e w' => ∃ r, e = .returned r ∧ AllDone w gm gt gk ge g s l T (prN ns) np r w'

set_option maxRecDepth 100000 in
set_option maxHeartbeats 1600000 in
theorem all_none : AllAt 0 := by
  intro w gm gt gk ge g s l m T gp bp op cp c vs ns hE hT h0 h1 h2 h3 hP hc hcp hnp
  have hns : ns = [] := List.length_eq_zero_iff.1 (by rw [hP.parts.len, hP.lv])
  subst hns
  have CO := hide (one_w w 1 (by omega))
  have HE := hide hE
  clear hE hT h0 h1 h2 h3 hP hc hcp
  go_enter Tryz.func48, Tryz.ntmps48
  go_wp2_with fail
  refine (unhide CO).mono ?_
  rintro e w1 ⟨r, rfl, nr, b⟩
  go_wp2
  go_ret
  exact ⟨r, rfl, s, m, nr, (unhide HE).next b, Int.le_refl _, by omega, Out.of_below b⟩

set_option maxRecDepth 100000 in
set_option maxHeartbeats 1600000 in
theorem all_one : AllAt 1 := by
  intro w gm gt gk ge g s l m T gp bp op cp c vs ns hE hT h0 h1 h2 h3 hP hc hcp hnp
  have hl : ns.length = 1 := by rw [hP.parts.len, hP.lv]
  obtain ⟨n0, rfl⟩ := List.length_eq_one_iff.1 hl
  have i0 := (hP.each 0 (by omega)).inW
  obtain rfl := hP.parts.head (by rw [hP.lv]; omega)
  have c0 := hP.parts.cell 0 (by rw [hP.lv]; omega)
  generalize vs.getD 0 undef = v0 at *
  have CO := hide (norm_w w v0 n0 (by simpa using i0))
  obtain ⟨ga, la, ca, rfl⟩ := i0.is
  have HE := hide hE
  rw [Nat.add_zero] at c0
  clear hE hT h0 h1 h2 h3 hP hc i0
  go_enter Tryz.func48, Tryz.ntmps48
  go_wp2_with fail
  refine (unhide CO).mono ?_
  rintro e w1 ⟨r, rfl, nr, b⟩
  go_wp2
  go_ret
  exact ⟨r, rfl, s, m, by simpa [prN] using nr, (unhide HE).next b, Int.le_refl _, by omega, Out.of_below b⟩

set_option maxRecDepth 100000 in
set_option maxHeartbeats 3200000 in
theorem all_more (np q n : Nat) (hq : q = np / 2) (hn : q + n = np) (h2p : 2 ≤ np) (A1 : AllAt q) (A2 : AllAt n) : AllAt np := by
  intro w gm gt gk ge g s l m T gp bp op cp c vs ns hE hT h0 h1 h2 h3 hP hc hcp hnp
  obtain rfl := hP.parts.head (by rw [hP.lv]; omega)
  have P1 := hP.take q (by omega)
  have hqc : q * c ≤ np * c := Nat.mul_le_mul_right c (by omega)
  have hnc : n * c ≤ np * c := Nat.mul_le_mul_right c (by omega)
  have C1 := hide (fun W (b : Below w.heap.size w W) => A1 W gm gt gk ge g s l m T _ bp op cp c _ _ (hE.next b) (hT.next b) h0 (by omega) h2 h3 (P1.next b) (by omega) (by omega) (by omega))
  obtain ⟨cc, hcc⟩ : ∃ cc, cp - q = cc := ⟨_, rfl⟩
  have C2 : Hid (∀ W v W', Below w.heap.size w W → AllDone W gm gt gk ge g s l T (prN (ns.take q)) q v W' → Calls Tryz.prog 48 #[.pointer (some ⟨gm, 0, none⟩), .slice (some ⟨bp, op + q, none⟩) n cc] W' fun e w' => ∃ r, e = .returned r ∧ ∃ s' m', NewW w.heap.size w' v (prN (ns.take q)) ∧ NewW w.heap.size w' r (prN (ns.drop q)) ∧ MEng w' gm gt gk ge g s' l m' T ∧ s ≤ s' ∧ s' ≤ s + 4294967296 * ((np - 2 : Nat) : Int) ∧ Out (· = g) w w') := fun W v W' b hd => by
    obtain ⟨s1, m1, nv, E1, k1, k2, o1⟩ := hd
    have hEW := hE.next b
    have P2 := ((hP.drop q n hn).next b).out hEW o1
    refine (A2 W' gm gt gk ge g s1 l m1 T _ bp (op + q) cc c _ _ E1 (hEW.tb o1 (hT.next b)) (by omega) (by omega) h2 h3 P2 (by omega) (by omega) (by omega)).mono ?_
    rintro e w' ⟨r, rfl, s2, m2, nr, E2, k3, k4, o2⟩
    have hgl := hE.met.lt
    exact ⟨r, rfl, s2, m2, (o2.newW nv (fun k e => by rw [e]; have := b.size; omega)).mono b.size, nr.mono (Nat.le_trans b.size o1.size), E2, by omega, by omega, (Out.of_below b).trans (o1.trans o2)⟩
  have hl : ns.length = np := by rw [hP.parts.len, hP.lv]
  obtain ⟨Z, hZ⟩ : ∃ Z, Z = 8001 := ⟨_, rfl⟩
  have L1 : prN (ns.take q) < 18446744073709551616 ^ Z := pow_up (prN_lt2 (n := q) (by simp; omega) (fun j hj => P1.small j hj)) (by rw [Nat.mul_comm]; omega)
  have L2 : prN (ns.drop q) < 18446744073709551616 ^ Z := pow_up (prN_lt2 (n := n) (by simp; omega) (fun j hj => (hP.drop q n hn).small j hj)) (by rw [Nat.mul_comm]; omega)
  have C3 : Hid (∀ W v r s' m', NewW w.heap.size W v (prN (ns.take q)) → NewW w.heap.size W r (prN (ns.drop q)) → MEng W gm gt gk ge g s' l m' T → s ≤ s' → s' ≤ s + 4294967296 * ((np - 2 : Nat) : Int) → Out (· = g) w W → Calls Tryz.prog 12 #[.pointer (some ⟨gm, 0, none⟩), v, r] W fun e w' => ∃ x, e = .returned x ∧ AllDone w gm gt gk ge g s l T (prN ns) np x w') := fun W v r s' m' nv nr E k1 k2 oo => by
    have iv := nv.toM L1 (by omega)
    have ir := nr.toM L2 (by omega)
    have hc1 := costT_le T (wl (prN (ns.take q))) (wl (prN (ns.drop q))) iv.wl_le ir.wl_le
    have hq1 : wl (prN (ns.take q)) * wl (prN (ns.drop q)) ≤ 16384 * 16384 := Nat.mul_le_mul iv.wl_le ir.wl_le
    refine (mmul_any W gm gt gk ge g s' l m' T v r _ _ E (hE.tb oo hT) (by omega) (by omega) h2 h3 iv ir).mono ?_
    rintro e w' ⟨x, m2, rfl, nx, E2, _, _, o2⟩
    rw [prN_split] at nx
    have hgl := hE.met.lt
    exact ⟨x, rfl, _, m2, nx.mono oo.size, E2, by omega, by omega, oo.trans o2⟩
  have j1 : IntKind.i64.wrap (q : Int) = (q : Int) := by rw [IntKind.wrap_i64]; omega
  have j2 : (np : Int).tdiv 2 = (q : Int) := by rw [Int.tdiv_eq_ediv_of_nonneg (by omega)]; omega
  have j3 : (np : Int) / 2 = (q : Int) := by omega
  have j4 : ((np : Int) == 0) = false := by simp; omega
  have j5 : ((np : Int) == 1) = false := by simp; omega
  have j6 : q ≤ cp ∧ ¬ cp = q ∧ np - q = n ∧ q ≤ np ∧ np ≤ cp := by omega
  obtain ⟨j6, j7, j8, j9, j10⟩ := j6
  have b0 : Below w.heap.size w w.drew := (Below.refl _ _).drew
  clear hE hT h0 h1 h2 h3 hP hc hcp hnp P1 hqc hnc L1 L2 hZ hl A1 A2 hq hn h2p
  generalize prN ns = N at *
  generalize prN (ns.take q) = N1 at *
  generalize prN (ns.drop q) = N2 at *
  go_enter Tryz.func48, Tryz.ntmps48
  go_wp2
  go_region_held3 (fun _ => True) (trivial) (first
    | (with_reducible refine (unhide C1 _ b0).mono ?_; rintro e w1 ⟨v1, rfl, d1⟩)
    | (with_reducible refine (unhide C2 _ _ _ b0 d1).mono ?_; rintro e w2 ⟨v2, rfl, s2, m2, n1, n2, E2, k1, k2, o2⟩)
    | (with_reducible refine (unhide C3 _ _ _ _ _ n1 n2 E2 k1 k2 o2).mono ?_; rintro e w3 ⟨v3, rfl, d3⟩)
    | fail)
  have D3 := hide d3
  clear d3
  go_wp2
  go_ret
  exact ⟨_, rfl, unhide D3⟩
theorem all_all (np : Nat) : AllAt np := by
  induction np using Nat.strongRecOn with
  | _ np ih =>
    match np, ih with
    | 0, _ => exact all_none
    | 1, _ => exact all_one
    | n + 2, ih => exact all_more (n + 2) ((n + 2) / 2) (n + 2 - (n + 2) / 2) rfl (by omega) (by omega) (ih _ (by omega)) (ih _ (by omega))

end Go.Proofs.YtiekgpphggejcaaGreatDoor

/- Product of the landed package mul. -/
namespace Go.Proofs.YtiekgpphggejcaaGreatDoor
open Go.RowKit

set_option maxRecDepth 100000 in
set_option maxHeartbeats 3200000 in
theorem prod_walk (w : World) (gm : Nat) (gp : Option Addr) (bp op cp np c : Nat) (vs : List Value) (ns : List Nat) (hP : PM w gp bp op vs ns np c) (hnp : np ≤ 1000) (Q : Value → World → Prop)
    (h0 : ∀ j, j < np → ns.getD j 0 = 0 → Q (.slice none 0 0) w)
    (C : Calls Tryz.prog 48 #[.pointer (some ⟨gm, 0, none⟩), .slice gp np cp] w fun e w' => ∃ r, e = .returned r ∧ Q r w') :
    Calls Tryz.prog 30 #[.pointer (some ⟨gm, 0, none⟩), .slice gp np cp] w fun e w' => ∃ r, e = .returned r ∧ Q r w' := by
  have HC := hide C
  have H0 := hide h0
  clear C h0
  go_enter Tryz.func30, Tryz.ntmps30
  go_wp2
  go_loopw [9] (fun i wr => ∃ q : Nat, q ≤ np ∧ i = .int .i64 (q : Int) ∧ wr = w) (fun i _ => np - (intOf i).toNat)
  case atStart => exact ⟨0, Nat.zero_le _, rfl, rfl⟩
  case round =>
    obtain ⟨q, hq, rfl, rfl⟩ := hrel
    by_cases hlt : q < np
    · have hi := hP.each q hlt
      obtain rfl := hP.parts.head (by rw [hP.lv]; omega)
      have cq := hP.parts.cell q (by rw [hP.lv]; exact hlt)
      have hqi : (q : Int) < (np : Int) := by omega
      obtain ⟨q1, hq1⟩ : ∃ q1, q + 1 = q1 := ⟨_, rfl⟩
      have i1 : (q : Int) + 1 = (q1 : Int) := by omega
      have i2 : IntKind.i64.wrap (q1 : Int) = (q1 : Int) := by rw [IntKind.wrap_i64]; omega
      generalize vs.getD q undef = v at *
      have HZ : Hid (ns.getD q 0 = 0 → Q (.slice none 0 0) wr) := unhide H0 q hlt
      generalize ns.getD q 0 = N at *
      obtain ⟨ga, la, ca, rfl⟩ := hi.inW.is
      by_cases hz : N = 0
      · have CZ := hide (zero_in hi.inW true (by simp [hz]))
        have F := hide (unhide HZ hz)
        clear hi HZ HC H0
        go_wp2_with fail
        refine (unhide CZ).mono ?_
        rintro e w1 ⟨rfl, hw⟩
        obtain rfl := hw.symm
        clear hw
        go_wp2
        go_ret
        exact ⟨_, rfl, unhide F⟩
      · have CZ := hide (zero_in hi.inW false (by simp [hz]))
        clear hi HZ H0
        go_wp2_with fail
        refine (unhide CZ).mono ?_
        rintro e w1 ⟨rfl, hw⟩
        obtain rfl := hw.symm
        clear hw
        go_wp2
        go_roundw
        case rel => exact ⟨q1, by omega, rfl, trivial⟩
        case measure => simp [intOf]; omega
    · have hqi : ¬ (q : Int) < (np : Int) := by omega
      clear H0 hP
      go_wp2_with fail
      refine (unhide HC).mono ?_
      rintro e w1 ⟨r, rfl, h⟩
      have H := hide h
      clear h HC
      go_wp2
      go_ret
      exact ⟨_, rfl, unhide H⟩

theorem spec_mprod : SpecMProd := by
  intro w gm gt gk ge g s l m T gp bp op cp np c vs ns hE hT h0 h1 h2 h3 hl hP hs hc hc2 hcp hnp hM
  have pm : PM w gp bp op vs ns np c := ⟨hl, hP, hs, hM⟩
  refine (prod_walk w gm gp bp op cp np c vs ns pm hnp (fun r w' => AllDone w gm gt gk ge g s l T (prN ns) np r w') (fun j hj hz => ?_) (all_all np w gm gt gk ge g s l m T gp bp op cp c vs ns hE hT h0 (by omega) h2 h3 pm hc hcp hnp)).mono ?_
  · rw [prN_zero (by rw [hP.len, hl]; exact hj) hz]
    exact ⟨s, m, newW_nil _ _, hE, Int.le_refl _, by omega, Out.refl _ _⟩
  · rintro e w' ⟨r, rfl, s', m', k1, k2, k3, k4, k5⟩
    exact ⟨r, s', m', rfl, k1, k2, by omega, by omega, k5⟩

end Go.Proofs.YtiekgpphggejcaaGreatDoor
