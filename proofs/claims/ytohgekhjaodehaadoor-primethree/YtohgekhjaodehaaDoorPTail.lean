/- PrimeThree: the end of a great region, whatever order is drawn. -/
import Derived.Test.YtohgekhjaodehaaDoorCut
namespace Go.Proofs.YtohgekhjaodehaaDoor
open Go.RowKit
set_option linter.unusedSimpArgs false

theorem eval_skip {B : Act} {d t : Nat} {v : Value} (h : d ≠ t) : (B.put (some d) v).eval (.tmp t) = B.eval (.tmp t) := by
  simp [Act.put, Act.eval, h]
theorem eval_hit {B : Act} {d : Nat} {v : Value} (h : d < B.tmps.size) : (B.put (some d) v).eval (.tmp d) = v := by
  simp [Act.put, Act.eval, h]
theorem size_put {B : Act} {d : Nat} {v : Value} : (B.put (some d) v).tmps.size = B.tmps.size := by
  simp [Act.put]
theorem get_skip {B : Act} {d t : Nat} {v : Value} (h : d ≠ t) : (B.put (some d) v).tmps[t]? = B.tmps[t]? := by
  simp [Act.put, h]
theorem put_swap {B : Act} {d e : Nat} {u v : Value} (h : d ≠ e) : (B.put (some d) u).put (some e) v = (B.put (some e) v).put (some d) u :=
  Act.put_comm B u v fun x h1 h2 => h (by rw [Option.some.inj h1, Option.some.inj h2])

set_option maxHeartbeats 3200000 in
theorem tail9_0 {ops : Array Oper} {Q : Exit → Act → World → Prop} {A : Act} {V W2 : World} {a g : Nat} {p60 p61 p62 p63 p64 p65 p66 p67 p68 p69 : String} {f60 f61 f62 f63 f64 f65 f66 f67 f68 f69 : Array Edge}
    (h33 : (ops[33]?).bind (fun o => o.dst) = some 59)
    (h34 : ops[34]? = some { dst := some 60, op := Op.move (Operand.tmp 7), type := 3, pos := p60, after := f60, guard := some (33, false) })
    (h35 : ops[35]? = some { dst := some 61, op := Op.indexAddr 35 (Operand.tmp 3) (Operand.tmp 60), type := 0, pos := p61, after := f61, guard := some (33, false) })
    (h36 : ops[36]? = some { dst := some 62, op := Op.fieldAddr 34 (Operand.tmp 61) 2, type := 0, pos := p62, after := f62, guard := some (33, false) })
    (h37 : ops[37]? = some { dst := some 63, op := Op.load 22 (Operand.tmp 62), type := 22, pos := p63, after := f63, guard := some (33, false) })
    (h38 : ops[38]? = some { dst := some 64, op := Op.buildSlice 39 3 #[(0, Operand.const (Value.int IntKind.u64 6)), (1, Operand.const (Value.int IntKind.u64 5)), (2, Operand.const (Value.int IntKind.u64 3))], type := 39, pos := p64, after := f64, guard := some (33, false) })
    (h39 : ops[39]? = some { dst := some 65, op := Op.move (Operand.tmp 7), type := 3, pos := p65, after := f65, guard := some (33, false) })
    (h40 : ops[40]? = some { dst := some 66, op := Op.indexAddr 39 (Operand.tmp 64) (Operand.tmp 65), type := 0, pos := p66, after := f66, guard := some (33, false) })
    (h41 : ops[41]? = some { dst := some 67, op := Op.load 22 (Operand.tmp 66), type := 22, pos := p67, after := f67, guard := some (33, false) })
    (h42 : ops[42]? = some { dst := some 68, op := Op.binOp BinOp.neq 22 (Operand.tmp 63) (Operand.tmp 67) 22, type := 4, pos := p68, after := f68, guard := some (33, false) })
    (h43 : ops[43]? = some { dst := some 69, op := Op.pick (Operand.tmp 59) (Operand.const (Value.bool true)) (Operand.tmp 68), type := 4, pos := p69, after := f69, guard := none })
    (hs : Region.noSelect ops = true) (hQ : ∀ c a w (d : Nat) v, Q (.panic c) (Act.put a (some d) v) w → Q (.panic c) a w)
    (q34 : Region.free .any ops (canon 34 10) 34 = true) (c34 : (Region.ready .any ops (canon 34 10)).contains 34 = true)
    (q35 : Region.free .any ops ((canon 34 10).setIfInBounds 34 true) 35 = true) (c35 : (Region.ready .any ops ((canon 34 10).setIfInBounds 34 true)).contains 35 = true)
    (q36 : Region.free .any ops (((canon 34 10).setIfInBounds 34 true).setIfInBounds 35 true) 36 = true) (c36 : (Region.ready .any ops (((canon 34 10).setIfInBounds 34 true).setIfInBounds 35 true)).contains 36 = true)
    (q39 : Region.free .any ops ((((canon 34 10).setIfInBounds 34 true).setIfInBounds 35 true).setIfInBounds 36 true) 39 = true) (c39 : (Region.ready .any ops ((((canon 34 10).setIfInBounds 34 true).setIfInBounds 35 true).setIfInBounds 36 true)).contains 39 = true)
    (r0 : Region.ready .any ops (((((canon 34 10).setIfInBounds 34 true).setIfInBounds 35 true).setIfInBounds 36 true).setIfInBounds 39 true) = [37, 38])
    (r1 : Region.ready .any ops ((((((canon 34 10).setIfInBounds 34 true).setIfInBounds 35 true).setIfInBounds 36 true).setIfInBounds 39 true).setIfInBounds 37 true) = [38])
    (r2 : Region.ready .any ops ((((((canon 34 10).setIfInBounds 34 true).setIfInBounds 35 true).setIfInBounds 36 true).setIfInBounds 39 true).setIfInBounds 38 true) = [37, 40])
    (r3 : Region.ready .any ops (((((((canon 34 10).setIfInBounds 34 true).setIfInBounds 35 true).setIfInBounds 36 true).setIfInBounds 39 true).setIfInBounds 37 true).setIfInBounds 38 true) = [40])
    (r4 : Region.ready .any ops (((((((canon 34 10).setIfInBounds 34 true).setIfInBounds 35 true).setIfInBounds 36 true).setIfInBounds 39 true).setIfInBounds 38 true).setIfInBounds 40 true) = [37, 41])
    (r5 : Region.ready .any ops ((((((((canon 34 10).setIfInBounds 34 true).setIfInBounds 35 true).setIfInBounds 36 true).setIfInBounds 39 true).setIfInBounds 37 true).setIfInBounds 38 true).setIfInBounds 40 true) = [41])
    (r6 : Region.ready .any ops ((((((((canon 34 10).setIfInBounds 34 true).setIfInBounds 35 true).setIfInBounds 36 true).setIfInBounds 39 true).setIfInBounds 38 true).setIfInBounds 40 true).setIfInBounds 41 true) = [37])
    (q42 : Region.free .any ops (((((((((canon 34 10).setIfInBounds 34 true).setIfInBounds 35 true).setIfInBounds 36 true).setIfInBounds 39 true).setIfInBounds 37 true).setIfInBounds 38 true).setIfInBounds 40 true).setIfInBounds 41 true) 42 = true) (c42 : (Region.ready .any ops (((((((((canon 34 10).setIfInBounds 34 true).setIfInBounds 35 true).setIfInBounds 36 true).setIfInBounds 39 true).setIfInBounds 37 true).setIfInBounds 38 true).setIfInBounds 40 true).setIfInBounds 41 true)).contains 42 = true)
    (q43 : Region.free .any ops ((((((((((canon 34 10).setIfInBounds 34 true).setIfInBounds 35 true).setIfInBounds 36 true).setIfInBounds 39 true).setIfInBounds 37 true).setIfInBounds 38 true).setIfInBounds 40 true).setIfInBounds 41 true).setIfInBounds 42 true) 43 = true) (c43 : (Region.ready .any ops ((((((((((canon 34 10).setIfInBounds 34 true).setIfInBounds 35 true).setIfInBounds 36 true).setIfInBounds 39 true).setIfInBounds 37 true).setIfInBounds 38 true).setIfInBounds 40 true).setIfInBounds 41 true).setIfInBounds 42 true)).contains 43 = true)
    (rz : Region.ready .any ops (((((((((((canon 34 10).setIfInBounds 34 true).setIfInBounds 35 true).setIfInBounds 36 true).setIfInBounds 39 true).setIfInBounds 37 true).setIfInBounds 38 true).setIfInBounds 40 true).setIfInBounds 41 true).setIfInBounds 42 true).setIfInBounds 43 true) = [])
    (hsz : A.tmps.size = 104) (b3 : A.eval (.tmp 3) = .pointer (some ⟨a, 0, none⟩)) (b7 : A.eval (.tmp 7) = .int .i64 0) (b59 : A.eval (.tmp 59) = .bool false) (a59 : A.tmps[59]? = some (.bool false))
    (hW2 : V.alloc (.cells #[.int .u64 6, .int .u64 5, .int .u64 3] 22) = W2) (hg : V.heap.size = g) (z1 : V.cell? ⟨a, 2, none⟩ = some (.int .u64 6)) (z2 : W2.cell? ⟨a, 2, none⟩ = some (.int .u64 6)) (z3 : W2.cell? ⟨g, 0, none⟩ = some (.int .u64 6))
    (fin : Q .normal (((((((((((A).put (some 60) (.int .i64 0)).put (some 61) (.pointer (some ⟨a, 0, none⟩))).put (some 62) (.pointer (some ⟨a, 2, none⟩))).put (some 65) (.int .i64 0)).put (some 63) (.int .u64 6)).put (some 64) (.slice (some ⟨g, 0, none⟩) 3 3)).put (some 66) (.pointer (some ⟨g, 0, none⟩))).put (some 67) (.int .u64 6)).put (some 68) (.bool false)).put (some 69) (.bool false)) W2) : wpAny Tryd.prog .any ops Q 10 (canon 34 10) A V := by
  have x34 : ∀ (w : World) (ρ : Operand → Value), ρ (.tmp 7) = .int .i64 0 → (execOp ρ { dst := some 60, op := Op.move (Operand.tmp 7), type := 3, pos := p60, after := f60, guard := some (33, false) }).run Tryd.prog w = .ok (.value (.int .i64 0)) w := by
    intro w ρ e7
    go_simp
  have x35 : ∀ (w : World) (ρ : Operand → Value), ρ (.tmp 3) = .pointer (some ⟨a, 0, none⟩) → ρ (.tmp 60) = .int .i64 0 → (execOp ρ { dst := some 61, op := Op.indexAddr 35 (Operand.tmp 3) (Operand.tmp 60), type := 0, pos := p61, after := f61, guard := some (33, false) }).run Tryd.prog w = .ok (.value (.pointer (some ⟨a, 0, none⟩))) w := by
    intro w ρ e3 e60
    go_simp
  have x36 : ∀ (w : World) (ρ : Operand → Value), ρ (.tmp 61) = .pointer (some ⟨a, 0, none⟩) → (execOp ρ { dst := some 62, op := Op.fieldAddr 34 (Operand.tmp 61) 2, type := 0, pos := p62, after := f62, guard := some (33, false) }).run Tryd.prog w = .ok (.value (.pointer (some ⟨a, 2, none⟩))) w := by
    intro w ρ e61
    go_simp
  have x39 : ∀ (w : World) (ρ : Operand → Value), ρ (.tmp 7) = .int .i64 0 → (execOp ρ { dst := some 65, op := Op.move (Operand.tmp 7), type := 3, pos := p65, after := f65, guard := some (33, false) }).run Tryd.prog w = .ok (.value (.int .i64 0)) w := by
    intro w ρ e7
    go_simp
  have x37v : ∀ (ρ : Operand → Value), ρ (.tmp 62) = .pointer (some ⟨a, 2, none⟩) → (execOp ρ { dst := some 63, op := Op.load 22 (Operand.tmp 62), type := 22, pos := p63, after := f63, guard := some (33, false) }).run Tryd.prog V = .ok (.value (.int .u64 6)) V := by
    intro ρ e62
    go_simp
  have x37w : ∀ (ρ : Operand → Value), ρ (.tmp 62) = .pointer (some ⟨a, 2, none⟩) → (execOp ρ { dst := some 63, op := Op.load 22 (Operand.tmp 62), type := 22, pos := p63, after := f63, guard := some (33, false) }).run Tryd.prog W2 = .ok (.value (.int .u64 6)) W2 := by
    intro ρ e62
    go_simp
  have x38 : ∀ (ρ : Operand → Value), (∀ v, ρ (.const v) = v) → (execOp ρ { dst := some 64, op := Op.buildSlice 39 3 #[(0, Operand.const (Value.int IntKind.u64 6)), (1, Operand.const (Value.int IntKind.u64 5)), (2, Operand.const (Value.int IntKind.u64 3))], type := 39, pos := p64, after := f64, guard := some (33, false) }).run Tryd.prog V = .ok (.value (.slice (some ⟨g, 0, none⟩) 3 3)) W2 := by
    intro ρ ec
    go_simp
  have x40 : ∀ (w : World) (ρ : Operand → Value), ρ (.tmp 64) = .slice (some ⟨g, 0, none⟩) 3 3 → ρ (.tmp 65) = .int .i64 0 → (execOp ρ { dst := some 66, op := Op.indexAddr 39 (Operand.tmp 64) (Operand.tmp 65), type := 0, pos := p66, after := f66, guard := some (33, false) }).run Tryd.prog w = .ok (.value (.pointer (some ⟨g, 0, none⟩))) w := by
    intro w ρ e64 e65
    go_simp
  have x41 : ∀ (ρ : Operand → Value), ρ (.tmp 66) = .pointer (some ⟨g, 0, none⟩) → (execOp ρ { dst := some 67, op := Op.load 22 (Operand.tmp 66), type := 22, pos := p67, after := f67, guard := some (33, false) }).run Tryd.prog W2 = .ok (.value (.int .u64 6)) W2 := by
    intro ρ e66
    go_simp
  have x42 : ∀ (w : World) (ρ : Operand → Value), ρ (.tmp 63) = .int .u64 6 → ρ (.tmp 67) = .int .u64 6 → (execOp ρ { dst := some 68, op := Op.binOp BinOp.neq 22 (Operand.tmp 63) (Operand.tmp 67) 22, type := 4, pos := p68, after := f68, guard := some (33, false) }).run Tryd.prog w = .ok (.value (.bool false)) w := by
    intro w ρ e63 e67
    go_simp
  have x43 : ∀ (w : World) (ρ : Operand → Value), ρ (.tmp 59) = .bool false → ρ (.tmp 68) = .bool false → (execOp ρ { dst := some 69, op := Op.pick (Operand.tmp 59) (Operand.const (Value.bool true)) (Operand.tmp 68), type := 4, pos := p69, after := f69, guard := none }).run Tryd.prog w = .ok (.value (.bool false)) w := by
    intro w ρ e59 e68
    go_simp
  have HW : ∀ (o : Oper) (B : Act), o.guard = some (33, false) → B.tmps[59]? = some (.bool false) → Region.wanted o (yielded ops B.tmps) = true := fun o B h1 h2 => by
    unfold Region.wanted yielded
    rw [h1]
    simp only [h33, Option.bind_some, h2]
    rfl
  refine wpAny_take h34 hs q34 c34 (fun c a w h => hQ c a w _ _ h) (Or.inl ⟨HW _ _ rfl (by simp [get_skip, a59]), fun w => x34 w _ (by simp [eval_skip, eval_hit, size_put, hsz, b3, b7, b59])⟩) ?_
  refine wpAny_take h35 hs q35 c35 (fun c a w h => hQ c a w _ _ h) (Or.inl ⟨HW _ _ rfl (by simp [get_skip, a59]), fun w => x35 w _ (by simp [eval_skip, eval_hit, size_put, hsz, b3, b7, b59]) (by simp [eval_skip, eval_hit, size_put, hsz, b3, b7, b59])⟩) ?_
  refine wpAny_take h36 hs q36 c36 (fun c a w h => hQ c a w _ _ h) (Or.inl ⟨HW _ _ rfl (by simp [get_skip, a59]), fun w => x36 w _ (by simp [eval_skip, eval_hit, size_put, hsz, b3, b7, b59])⟩) ?_
  refine wpAny_take h39 hs q39 c39 (fun c a w h => hQ c a w _ _ h) (Or.inl ⟨HW _ _ rfl (by simp [get_skip, a59]), fun w => x39 w _ (by simp [eval_skip, eval_hit, size_put, hsz, b3, b7, b59])⟩) ?_
  refine diamond 37 38 40 41 h37 h38 h40 h41 (by decide) (by decide) (by decide) r0 r1 r2 r3 r4 r5 r6 ⟨HW _ _ rfl (by simp [get_skip, a59]), x37v _ (by simp [eval_skip, eval_hit, size_put, hsz, b3, b7, b59])⟩ ⟨HW _ _ rfl (by simp [get_skip, a59]), x37w _ (by simp [eval_skip, eval_hit, size_put, hsz, b3, b7, b59])⟩ ⟨HW _ _ rfl (by simp [get_skip, a59]), x37w _ (by simp [eval_skip, eval_hit, size_put, hsz, b3, b7, b59])⟩ ⟨HW _ _ rfl (by simp [get_skip, a59]), x37w _ (by simp [eval_skip, eval_hit, size_put, hsz, b3, b7, b59])⟩ ⟨HW _ _ rfl (by simp [get_skip, a59]), x38 _  (fun _ => rfl)⟩ ⟨HW _ _ rfl (by simp [get_skip, a59]), x38 _  (fun _ => rfl)⟩ ⟨HW _ _ rfl (by simp [get_skip, a59]), x40 _ _ (by simp [eval_skip, eval_hit, size_put, hsz, b3, b7, b59]) (by simp [eval_skip, eval_hit, size_put, hsz, b3, b7, b59])⟩ ⟨HW _ _ rfl (by simp [get_skip, a59]), x40 _ _ (by simp [eval_skip, eval_hit, size_put, hsz, b3, b7, b59]) (by simp [eval_skip, eval_hit, size_put, hsz, b3, b7, b59])⟩ ⟨HW _ _ rfl (by simp [get_skip, a59]), x41 _ (by simp [eval_skip, eval_hit, size_put, hsz, b3, b7, b59])⟩ ⟨HW _ _ rfl (by simp [get_skip, a59]), x41 _ (by simp [eval_skip, eval_hit, size_put, hsz, b3, b7, b59])⟩ ?_ ?_ ?_ ?_
  · exact put_swap (by decide)
  · show Act.put (Act.put (Act.put _ (some 64) _) (some 66) _) (some 63) _ = Act.put (Act.put (Act.put _ (some 63) _) (some 64) _) (some 66) _
    rw [put_swap (d := 66) (e := 63) (by decide), put_swap (d := 64) (e := 63) (by decide)]
  · show Act.put (Act.put (Act.put (Act.put _ (some 64) _) (some 66) _) (some 67) _) (some 63) _ = Act.put (Act.put (Act.put (Act.put _ (some 63) _) (some 64) _) (some 66) _) (some 67) _
    rw [put_swap (d := 67) (e := 63) (by decide), put_swap (d := 66) (e := 63) (by decide), put_swap (d := 64) (e := 63) (by decide)]
  refine wpAny_take h42 hs q42 c42 (fun c a w h => hQ c a w _ _ h) (Or.inl ⟨HW _ _ rfl (by simp [get_skip, a59]), fun w => x42 w _ (by simp [eval_skip, eval_hit, size_put, hsz, b3, b7, b59]) (by simp [eval_skip, eval_hit, size_put, hsz, b3, b7, b59])⟩) ?_
  refine wpAny_take h43 hs q43 c43 (fun c a w h => hQ c a w _ _ h) (Or.inl ⟨rfl, fun w => x43 w _ (by simp [eval_skip, eval_hit, size_put, hsz, b3, b7, b59]) (by simp [eval_skip, eval_hit, size_put, hsz, b3, b7, b59])⟩) ?_
  exact wpAny_done rz fin _

set_option maxHeartbeats 3200000 in
theorem tail9_1 {ops : Array Oper} {Q : Exit → Act → World → Prop} {A : Act} {V W2 : World} {a g : Nat} {p60 p61 p62 p63 p64 p65 p66 p67 p68 p69 : String} {f60 f61 f62 f63 f64 f65 f66 f67 f68 f69 : Array Edge}
    (h33 : (ops[33]?).bind (fun o => o.dst) = some 59)
    (h34 : ops[34]? = some { dst := some 60, op := Op.move (Operand.tmp 7), type := 3, pos := p60, after := f60, guard := some (33, false) })
    (h35 : ops[35]? = some { dst := some 61, op := Op.indexAddr 35 (Operand.tmp 3) (Operand.tmp 60), type := 0, pos := p61, after := f61, guard := some (33, false) })
    (h36 : ops[36]? = some { dst := some 62, op := Op.fieldAddr 34 (Operand.tmp 61) 2, type := 0, pos := p62, after := f62, guard := some (33, false) })
    (h37 : ops[37]? = some { dst := some 63, op := Op.load 22 (Operand.tmp 62), type := 22, pos := p63, after := f63, guard := some (33, false) })
    (h38 : ops[38]? = some { dst := some 64, op := Op.buildSlice 39 3 #[(0, Operand.const (Value.int IntKind.u64 6)), (1, Operand.const (Value.int IntKind.u64 5)), (2, Operand.const (Value.int IntKind.u64 3))], type := 39, pos := p64, after := f64, guard := some (33, false) })
    (h39 : ops[39]? = some { dst := some 65, op := Op.move (Operand.tmp 7), type := 3, pos := p65, after := f65, guard := some (33, false) })
    (h40 : ops[40]? = some { dst := some 66, op := Op.indexAddr 39 (Operand.tmp 64) (Operand.tmp 65), type := 0, pos := p66, after := f66, guard := some (33, false) })
    (h41 : ops[41]? = some { dst := some 67, op := Op.load 22 (Operand.tmp 66), type := 22, pos := p67, after := f67, guard := some (33, false) })
    (h42 : ops[42]? = some { dst := some 68, op := Op.binOp BinOp.neq 22 (Operand.tmp 63) (Operand.tmp 67) 22, type := 4, pos := p68, after := f68, guard := some (33, false) })
    (h43 : ops[43]? = some { dst := some 69, op := Op.pick (Operand.tmp 59) (Operand.const (Value.bool true)) (Operand.tmp 68), type := 4, pos := p69, after := f69, guard := none })
    (hs : Region.noSelect ops = true) (hQ : ∀ c a w (d : Nat) v, Q (.panic c) (Act.put a (some d) v) w → Q (.panic c) a w)
    (q34 : Region.free .any ops (canon 34 10) 34 = true) (c34 : (Region.ready .any ops (canon 34 10)).contains 34 = true)
    (q35 : Region.free .any ops ((canon 34 10).setIfInBounds 34 true) 35 = true) (c35 : (Region.ready .any ops ((canon 34 10).setIfInBounds 34 true)).contains 35 = true)
    (q36 : Region.free .any ops (((canon 34 10).setIfInBounds 34 true).setIfInBounds 35 true) 36 = true) (c36 : (Region.ready .any ops (((canon 34 10).setIfInBounds 34 true).setIfInBounds 35 true)).contains 36 = true)
    (q39 : Region.free .any ops ((((canon 34 10).setIfInBounds 34 true).setIfInBounds 35 true).setIfInBounds 36 true) 39 = true) (c39 : (Region.ready .any ops ((((canon 34 10).setIfInBounds 34 true).setIfInBounds 35 true).setIfInBounds 36 true)).contains 39 = true)
    (r0 : Region.ready .any ops (((((canon 34 10).setIfInBounds 34 true).setIfInBounds 35 true).setIfInBounds 36 true).setIfInBounds 39 true) = [37, 38])
    (r1 : Region.ready .any ops ((((((canon 34 10).setIfInBounds 34 true).setIfInBounds 35 true).setIfInBounds 36 true).setIfInBounds 39 true).setIfInBounds 37 true) = [38])
    (r2 : Region.ready .any ops ((((((canon 34 10).setIfInBounds 34 true).setIfInBounds 35 true).setIfInBounds 36 true).setIfInBounds 39 true).setIfInBounds 38 true) = [37, 40])
    (r3 : Region.ready .any ops (((((((canon 34 10).setIfInBounds 34 true).setIfInBounds 35 true).setIfInBounds 36 true).setIfInBounds 39 true).setIfInBounds 37 true).setIfInBounds 38 true) = [40])
    (r4 : Region.ready .any ops (((((((canon 34 10).setIfInBounds 34 true).setIfInBounds 35 true).setIfInBounds 36 true).setIfInBounds 39 true).setIfInBounds 38 true).setIfInBounds 40 true) = [37, 41])
    (r5 : Region.ready .any ops ((((((((canon 34 10).setIfInBounds 34 true).setIfInBounds 35 true).setIfInBounds 36 true).setIfInBounds 39 true).setIfInBounds 37 true).setIfInBounds 38 true).setIfInBounds 40 true) = [41])
    (r6 : Region.ready .any ops ((((((((canon 34 10).setIfInBounds 34 true).setIfInBounds 35 true).setIfInBounds 36 true).setIfInBounds 39 true).setIfInBounds 38 true).setIfInBounds 40 true).setIfInBounds 41 true) = [37])
    (q42 : Region.free .any ops (((((((((canon 34 10).setIfInBounds 34 true).setIfInBounds 35 true).setIfInBounds 36 true).setIfInBounds 39 true).setIfInBounds 37 true).setIfInBounds 38 true).setIfInBounds 40 true).setIfInBounds 41 true) 42 = true) (c42 : (Region.ready .any ops (((((((((canon 34 10).setIfInBounds 34 true).setIfInBounds 35 true).setIfInBounds 36 true).setIfInBounds 39 true).setIfInBounds 37 true).setIfInBounds 38 true).setIfInBounds 40 true).setIfInBounds 41 true)).contains 42 = true)
    (q43 : Region.free .any ops ((((((((((canon 34 10).setIfInBounds 34 true).setIfInBounds 35 true).setIfInBounds 36 true).setIfInBounds 39 true).setIfInBounds 37 true).setIfInBounds 38 true).setIfInBounds 40 true).setIfInBounds 41 true).setIfInBounds 42 true) 43 = true) (c43 : (Region.ready .any ops ((((((((((canon 34 10).setIfInBounds 34 true).setIfInBounds 35 true).setIfInBounds 36 true).setIfInBounds 39 true).setIfInBounds 37 true).setIfInBounds 38 true).setIfInBounds 40 true).setIfInBounds 41 true).setIfInBounds 42 true)).contains 43 = true)
    (rz : Region.ready .any ops (((((((((((canon 34 10).setIfInBounds 34 true).setIfInBounds 35 true).setIfInBounds 36 true).setIfInBounds 39 true).setIfInBounds 37 true).setIfInBounds 38 true).setIfInBounds 40 true).setIfInBounds 41 true).setIfInBounds 42 true).setIfInBounds 43 true) = [])
    (hsz : A.tmps.size = 104) (b3 : A.eval (.tmp 3) = .pointer (some ⟨a, 0, none⟩)) (b7 : A.eval (.tmp 7) = .int .i64 1) (b59 : A.eval (.tmp 59) = .bool false) (a59 : A.tmps[59]? = some (.bool false))
    (hW2 : V.alloc (.cells #[.int .u64 6, .int .u64 5, .int .u64 3] 22) = W2) (hg : V.heap.size = g) (z1 : V.cell? ⟨a, 5, none⟩ = some (.int .u64 5)) (z2 : W2.cell? ⟨a, 5, none⟩ = some (.int .u64 5)) (z3 : W2.cell? ⟨g, 1, none⟩ = some (.int .u64 5))
    (fin : Q .normal (((((((((((A).put (some 60) (.int .i64 1)).put (some 61) (.pointer (some ⟨a, 3, none⟩))).put (some 62) (.pointer (some ⟨a, 5, none⟩))).put (some 65) (.int .i64 1)).put (some 63) (.int .u64 5)).put (some 64) (.slice (some ⟨g, 0, none⟩) 3 3)).put (some 66) (.pointer (some ⟨g, 1, none⟩))).put (some 67) (.int .u64 5)).put (some 68) (.bool false)).put (some 69) (.bool false)) W2) : wpAny Tryd.prog .any ops Q 10 (canon 34 10) A V := by
  have x34 : ∀ (w : World) (ρ : Operand → Value), ρ (.tmp 7) = .int .i64 1 → (execOp ρ { dst := some 60, op := Op.move (Operand.tmp 7), type := 3, pos := p60, after := f60, guard := some (33, false) }).run Tryd.prog w = .ok (.value (.int .i64 1)) w := by
    intro w ρ e7
    go_simp
  have x35 : ∀ (w : World) (ρ : Operand → Value), ρ (.tmp 3) = .pointer (some ⟨a, 0, none⟩) → ρ (.tmp 60) = .int .i64 1 → (execOp ρ { dst := some 61, op := Op.indexAddr 35 (Operand.tmp 3) (Operand.tmp 60), type := 0, pos := p61, after := f61, guard := some (33, false) }).run Tryd.prog w = .ok (.value (.pointer (some ⟨a, 3, none⟩))) w := by
    intro w ρ e3 e60
    go_simp
  have x36 : ∀ (w : World) (ρ : Operand → Value), ρ (.tmp 61) = .pointer (some ⟨a, 3, none⟩) → (execOp ρ { dst := some 62, op := Op.fieldAddr 34 (Operand.tmp 61) 2, type := 0, pos := p62, after := f62, guard := some (33, false) }).run Tryd.prog w = .ok (.value (.pointer (some ⟨a, 5, none⟩))) w := by
    intro w ρ e61
    go_simp
  have x39 : ∀ (w : World) (ρ : Operand → Value), ρ (.tmp 7) = .int .i64 1 → (execOp ρ { dst := some 65, op := Op.move (Operand.tmp 7), type := 3, pos := p65, after := f65, guard := some (33, false) }).run Tryd.prog w = .ok (.value (.int .i64 1)) w := by
    intro w ρ e7
    go_simp
  have x37v : ∀ (ρ : Operand → Value), ρ (.tmp 62) = .pointer (some ⟨a, 5, none⟩) → (execOp ρ { dst := some 63, op := Op.load 22 (Operand.tmp 62), type := 22, pos := p63, after := f63, guard := some (33, false) }).run Tryd.prog V = .ok (.value (.int .u64 5)) V := by
    intro ρ e62
    go_simp
  have x37w : ∀ (ρ : Operand → Value), ρ (.tmp 62) = .pointer (some ⟨a, 5, none⟩) → (execOp ρ { dst := some 63, op := Op.load 22 (Operand.tmp 62), type := 22, pos := p63, after := f63, guard := some (33, false) }).run Tryd.prog W2 = .ok (.value (.int .u64 5)) W2 := by
    intro ρ e62
    go_simp
  have x38 : ∀ (ρ : Operand → Value), (∀ v, ρ (.const v) = v) → (execOp ρ { dst := some 64, op := Op.buildSlice 39 3 #[(0, Operand.const (Value.int IntKind.u64 6)), (1, Operand.const (Value.int IntKind.u64 5)), (2, Operand.const (Value.int IntKind.u64 3))], type := 39, pos := p64, after := f64, guard := some (33, false) }).run Tryd.prog V = .ok (.value (.slice (some ⟨g, 0, none⟩) 3 3)) W2 := by
    intro ρ ec
    go_simp
  have x40 : ∀ (w : World) (ρ : Operand → Value), ρ (.tmp 64) = .slice (some ⟨g, 0, none⟩) 3 3 → ρ (.tmp 65) = .int .i64 1 → (execOp ρ { dst := some 66, op := Op.indexAddr 39 (Operand.tmp 64) (Operand.tmp 65), type := 0, pos := p66, after := f66, guard := some (33, false) }).run Tryd.prog w = .ok (.value (.pointer (some ⟨g, 1, none⟩))) w := by
    intro w ρ e64 e65
    go_simp
  have x41 : ∀ (ρ : Operand → Value), ρ (.tmp 66) = .pointer (some ⟨g, 1, none⟩) → (execOp ρ { dst := some 67, op := Op.load 22 (Operand.tmp 66), type := 22, pos := p67, after := f67, guard := some (33, false) }).run Tryd.prog W2 = .ok (.value (.int .u64 5)) W2 := by
    intro ρ e66
    go_simp
  have x42 : ∀ (w : World) (ρ : Operand → Value), ρ (.tmp 63) = .int .u64 5 → ρ (.tmp 67) = .int .u64 5 → (execOp ρ { dst := some 68, op := Op.binOp BinOp.neq 22 (Operand.tmp 63) (Operand.tmp 67) 22, type := 4, pos := p68, after := f68, guard := some (33, false) }).run Tryd.prog w = .ok (.value (.bool false)) w := by
    intro w ρ e63 e67
    go_simp
  have x43 : ∀ (w : World) (ρ : Operand → Value), ρ (.tmp 59) = .bool false → ρ (.tmp 68) = .bool false → (execOp ρ { dst := some 69, op := Op.pick (Operand.tmp 59) (Operand.const (Value.bool true)) (Operand.tmp 68), type := 4, pos := p69, after := f69, guard := none }).run Tryd.prog w = .ok (.value (.bool false)) w := by
    intro w ρ e59 e68
    go_simp
  have HW : ∀ (o : Oper) (B : Act), o.guard = some (33, false) → B.tmps[59]? = some (.bool false) → Region.wanted o (yielded ops B.tmps) = true := fun o B h1 h2 => by
    unfold Region.wanted yielded
    rw [h1]
    simp only [h33, Option.bind_some, h2]
    rfl
  refine wpAny_take h34 hs q34 c34 (fun c a w h => hQ c a w _ _ h) (Or.inl ⟨HW _ _ rfl (by simp [get_skip, a59]), fun w => x34 w _ (by simp [eval_skip, eval_hit, size_put, hsz, b3, b7, b59])⟩) ?_
  refine wpAny_take h35 hs q35 c35 (fun c a w h => hQ c a w _ _ h) (Or.inl ⟨HW _ _ rfl (by simp [get_skip, a59]), fun w => x35 w _ (by simp [eval_skip, eval_hit, size_put, hsz, b3, b7, b59]) (by simp [eval_skip, eval_hit, size_put, hsz, b3, b7, b59])⟩) ?_
  refine wpAny_take h36 hs q36 c36 (fun c a w h => hQ c a w _ _ h) (Or.inl ⟨HW _ _ rfl (by simp [get_skip, a59]), fun w => x36 w _ (by simp [eval_skip, eval_hit, size_put, hsz, b3, b7, b59])⟩) ?_
  refine wpAny_take h39 hs q39 c39 (fun c a w h => hQ c a w _ _ h) (Or.inl ⟨HW _ _ rfl (by simp [get_skip, a59]), fun w => x39 w _ (by simp [eval_skip, eval_hit, size_put, hsz, b3, b7, b59])⟩) ?_
  refine diamond 37 38 40 41 h37 h38 h40 h41 (by decide) (by decide) (by decide) r0 r1 r2 r3 r4 r5 r6 ⟨HW _ _ rfl (by simp [get_skip, a59]), x37v _ (by simp [eval_skip, eval_hit, size_put, hsz, b3, b7, b59])⟩ ⟨HW _ _ rfl (by simp [get_skip, a59]), x37w _ (by simp [eval_skip, eval_hit, size_put, hsz, b3, b7, b59])⟩ ⟨HW _ _ rfl (by simp [get_skip, a59]), x37w _ (by simp [eval_skip, eval_hit, size_put, hsz, b3, b7, b59])⟩ ⟨HW _ _ rfl (by simp [get_skip, a59]), x37w _ (by simp [eval_skip, eval_hit, size_put, hsz, b3, b7, b59])⟩ ⟨HW _ _ rfl (by simp [get_skip, a59]), x38 _  (fun _ => rfl)⟩ ⟨HW _ _ rfl (by simp [get_skip, a59]), x38 _  (fun _ => rfl)⟩ ⟨HW _ _ rfl (by simp [get_skip, a59]), x40 _ _ (by simp [eval_skip, eval_hit, size_put, hsz, b3, b7, b59]) (by simp [eval_skip, eval_hit, size_put, hsz, b3, b7, b59])⟩ ⟨HW _ _ rfl (by simp [get_skip, a59]), x40 _ _ (by simp [eval_skip, eval_hit, size_put, hsz, b3, b7, b59]) (by simp [eval_skip, eval_hit, size_put, hsz, b3, b7, b59])⟩ ⟨HW _ _ rfl (by simp [get_skip, a59]), x41 _ (by simp [eval_skip, eval_hit, size_put, hsz, b3, b7, b59])⟩ ⟨HW _ _ rfl (by simp [get_skip, a59]), x41 _ (by simp [eval_skip, eval_hit, size_put, hsz, b3, b7, b59])⟩ ?_ ?_ ?_ ?_
  · exact put_swap (by decide)
  · show Act.put (Act.put (Act.put _ (some 64) _) (some 66) _) (some 63) _ = Act.put (Act.put (Act.put _ (some 63) _) (some 64) _) (some 66) _
    rw [put_swap (d := 66) (e := 63) (by decide), put_swap (d := 64) (e := 63) (by decide)]
  · show Act.put (Act.put (Act.put (Act.put _ (some 64) _) (some 66) _) (some 67) _) (some 63) _ = Act.put (Act.put (Act.put (Act.put _ (some 63) _) (some 64) _) (some 66) _) (some 67) _
    rw [put_swap (d := 67) (e := 63) (by decide), put_swap (d := 66) (e := 63) (by decide), put_swap (d := 64) (e := 63) (by decide)]
  refine wpAny_take h42 hs q42 c42 (fun c a w h => hQ c a w _ _ h) (Or.inl ⟨HW _ _ rfl (by simp [get_skip, a59]), fun w => x42 w _ (by simp [eval_skip, eval_hit, size_put, hsz, b3, b7, b59]) (by simp [eval_skip, eval_hit, size_put, hsz, b3, b7, b59])⟩) ?_
  refine wpAny_take h43 hs q43 c43 (fun c a w h => hQ c a w _ _ h) (Or.inl ⟨rfl, fun w => x43 w _ (by simp [eval_skip, eval_hit, size_put, hsz, b3, b7, b59]) (by simp [eval_skip, eval_hit, size_put, hsz, b3, b7, b59])⟩) ?_
  exact wpAny_done rz fin _

set_option maxHeartbeats 3200000 in
theorem tail9_2 {ops : Array Oper} {Q : Exit → Act → World → Prop} {A : Act} {V W2 : World} {a g : Nat} {p60 p61 p62 p63 p64 p65 p66 p67 p68 p69 : String} {f60 f61 f62 f63 f64 f65 f66 f67 f68 f69 : Array Edge}
    (h33 : (ops[33]?).bind (fun o => o.dst) = some 59)
    (h34 : ops[34]? = some { dst := some 60, op := Op.move (Operand.tmp 7), type := 3, pos := p60, after := f60, guard := some (33, false) })
    (h35 : ops[35]? = some { dst := some 61, op := Op.indexAddr 35 (Operand.tmp 3) (Operand.tmp 60), type := 0, pos := p61, after := f61, guard := some (33, false) })
    (h36 : ops[36]? = some { dst := some 62, op := Op.fieldAddr 34 (Operand.tmp 61) 2, type := 0, pos := p62, after := f62, guard := some (33, false) })
    (h37 : ops[37]? = some { dst := some 63, op := Op.load 22 (Operand.tmp 62), type := 22, pos := p63, after := f63, guard := some (33, false) })
    (h38 : ops[38]? = some { dst := some 64, op := Op.buildSlice 39 3 #[(0, Operand.const (Value.int IntKind.u64 6)), (1, Operand.const (Value.int IntKind.u64 5)), (2, Operand.const (Value.int IntKind.u64 3))], type := 39, pos := p64, after := f64, guard := some (33, false) })
    (h39 : ops[39]? = some { dst := some 65, op := Op.move (Operand.tmp 7), type := 3, pos := p65, after := f65, guard := some (33, false) })
    (h40 : ops[40]? = some { dst := some 66, op := Op.indexAddr 39 (Operand.tmp 64) (Operand.tmp 65), type := 0, pos := p66, after := f66, guard := some (33, false) })
    (h41 : ops[41]? = some { dst := some 67, op := Op.load 22 (Operand.tmp 66), type := 22, pos := p67, after := f67, guard := some (33, false) })
    (h42 : ops[42]? = some { dst := some 68, op := Op.binOp BinOp.neq 22 (Operand.tmp 63) (Operand.tmp 67) 22, type := 4, pos := p68, after := f68, guard := some (33, false) })
    (h43 : ops[43]? = some { dst := some 69, op := Op.pick (Operand.tmp 59) (Operand.const (Value.bool true)) (Operand.tmp 68), type := 4, pos := p69, after := f69, guard := none })
    (hs : Region.noSelect ops = true) (hQ : ∀ c a w (d : Nat) v, Q (.panic c) (Act.put a (some d) v) w → Q (.panic c) a w)
    (q34 : Region.free .any ops (canon 34 10) 34 = true) (c34 : (Region.ready .any ops (canon 34 10)).contains 34 = true)
    (q35 : Region.free .any ops ((canon 34 10).setIfInBounds 34 true) 35 = true) (c35 : (Region.ready .any ops ((canon 34 10).setIfInBounds 34 true)).contains 35 = true)
    (q36 : Region.free .any ops (((canon 34 10).setIfInBounds 34 true).setIfInBounds 35 true) 36 = true) (c36 : (Region.ready .any ops (((canon 34 10).setIfInBounds 34 true).setIfInBounds 35 true)).contains 36 = true)
    (q39 : Region.free .any ops ((((canon 34 10).setIfInBounds 34 true).setIfInBounds 35 true).setIfInBounds 36 true) 39 = true) (c39 : (Region.ready .any ops ((((canon 34 10).setIfInBounds 34 true).setIfInBounds 35 true).setIfInBounds 36 true)).contains 39 = true)
    (r0 : Region.ready .any ops (((((canon 34 10).setIfInBounds 34 true).setIfInBounds 35 true).setIfInBounds 36 true).setIfInBounds 39 true) = [37, 38])
    (r1 : Region.ready .any ops ((((((canon 34 10).setIfInBounds 34 true).setIfInBounds 35 true).setIfInBounds 36 true).setIfInBounds 39 true).setIfInBounds 37 true) = [38])
    (r2 : Region.ready .any ops ((((((canon 34 10).setIfInBounds 34 true).setIfInBounds 35 true).setIfInBounds 36 true).setIfInBounds 39 true).setIfInBounds 38 true) = [37, 40])
    (r3 : Region.ready .any ops (((((((canon 34 10).setIfInBounds 34 true).setIfInBounds 35 true).setIfInBounds 36 true).setIfInBounds 39 true).setIfInBounds 37 true).setIfInBounds 38 true) = [40])
    (r4 : Region.ready .any ops (((((((canon 34 10).setIfInBounds 34 true).setIfInBounds 35 true).setIfInBounds 36 true).setIfInBounds 39 true).setIfInBounds 38 true).setIfInBounds 40 true) = [37, 41])
    (r5 : Region.ready .any ops ((((((((canon 34 10).setIfInBounds 34 true).setIfInBounds 35 true).setIfInBounds 36 true).setIfInBounds 39 true).setIfInBounds 37 true).setIfInBounds 38 true).setIfInBounds 40 true) = [41])
    (r6 : Region.ready .any ops ((((((((canon 34 10).setIfInBounds 34 true).setIfInBounds 35 true).setIfInBounds 36 true).setIfInBounds 39 true).setIfInBounds 38 true).setIfInBounds 40 true).setIfInBounds 41 true) = [37])
    (q42 : Region.free .any ops (((((((((canon 34 10).setIfInBounds 34 true).setIfInBounds 35 true).setIfInBounds 36 true).setIfInBounds 39 true).setIfInBounds 37 true).setIfInBounds 38 true).setIfInBounds 40 true).setIfInBounds 41 true) 42 = true) (c42 : (Region.ready .any ops (((((((((canon 34 10).setIfInBounds 34 true).setIfInBounds 35 true).setIfInBounds 36 true).setIfInBounds 39 true).setIfInBounds 37 true).setIfInBounds 38 true).setIfInBounds 40 true).setIfInBounds 41 true)).contains 42 = true)
    (q43 : Region.free .any ops ((((((((((canon 34 10).setIfInBounds 34 true).setIfInBounds 35 true).setIfInBounds 36 true).setIfInBounds 39 true).setIfInBounds 37 true).setIfInBounds 38 true).setIfInBounds 40 true).setIfInBounds 41 true).setIfInBounds 42 true) 43 = true) (c43 : (Region.ready .any ops ((((((((((canon 34 10).setIfInBounds 34 true).setIfInBounds 35 true).setIfInBounds 36 true).setIfInBounds 39 true).setIfInBounds 37 true).setIfInBounds 38 true).setIfInBounds 40 true).setIfInBounds 41 true).setIfInBounds 42 true)).contains 43 = true)
    (rz : Region.ready .any ops (((((((((((canon 34 10).setIfInBounds 34 true).setIfInBounds 35 true).setIfInBounds 36 true).setIfInBounds 39 true).setIfInBounds 37 true).setIfInBounds 38 true).setIfInBounds 40 true).setIfInBounds 41 true).setIfInBounds 42 true).setIfInBounds 43 true) = [])
    (hsz : A.tmps.size = 104) (b3 : A.eval (.tmp 3) = .pointer (some ⟨a, 0, none⟩)) (b7 : A.eval (.tmp 7) = .int .i64 2) (b59 : A.eval (.tmp 59) = .bool false) (a59 : A.tmps[59]? = some (.bool false))
    (hW2 : V.alloc (.cells #[.int .u64 6, .int .u64 5, .int .u64 3] 22) = W2) (hg : V.heap.size = g) (z1 : V.cell? ⟨a, 8, none⟩ = some (.int .u64 3)) (z2 : W2.cell? ⟨a, 8, none⟩ = some (.int .u64 3)) (z3 : W2.cell? ⟨g, 2, none⟩ = some (.int .u64 3))
    (fin : Q .normal (((((((((((A).put (some 60) (.int .i64 2)).put (some 61) (.pointer (some ⟨a, 6, none⟩))).put (some 62) (.pointer (some ⟨a, 8, none⟩))).put (some 65) (.int .i64 2)).put (some 63) (.int .u64 3)).put (some 64) (.slice (some ⟨g, 0, none⟩) 3 3)).put (some 66) (.pointer (some ⟨g, 2, none⟩))).put (some 67) (.int .u64 3)).put (some 68) (.bool false)).put (some 69) (.bool false)) W2) : wpAny Tryd.prog .any ops Q 10 (canon 34 10) A V := by
  have x34 : ∀ (w : World) (ρ : Operand → Value), ρ (.tmp 7) = .int .i64 2 → (execOp ρ { dst := some 60, op := Op.move (Operand.tmp 7), type := 3, pos := p60, after := f60, guard := some (33, false) }).run Tryd.prog w = .ok (.value (.int .i64 2)) w := by
    intro w ρ e7
    go_simp
  have x35 : ∀ (w : World) (ρ : Operand → Value), ρ (.tmp 3) = .pointer (some ⟨a, 0, none⟩) → ρ (.tmp 60) = .int .i64 2 → (execOp ρ { dst := some 61, op := Op.indexAddr 35 (Operand.tmp 3) (Operand.tmp 60), type := 0, pos := p61, after := f61, guard := some (33, false) }).run Tryd.prog w = .ok (.value (.pointer (some ⟨a, 6, none⟩))) w := by
    intro w ρ e3 e60
    go_simp
  have x36 : ∀ (w : World) (ρ : Operand → Value), ρ (.tmp 61) = .pointer (some ⟨a, 6, none⟩) → (execOp ρ { dst := some 62, op := Op.fieldAddr 34 (Operand.tmp 61) 2, type := 0, pos := p62, after := f62, guard := some (33, false) }).run Tryd.prog w = .ok (.value (.pointer (some ⟨a, 8, none⟩))) w := by
    intro w ρ e61
    go_simp
  have x39 : ∀ (w : World) (ρ : Operand → Value), ρ (.tmp 7) = .int .i64 2 → (execOp ρ { dst := some 65, op := Op.move (Operand.tmp 7), type := 3, pos := p65, after := f65, guard := some (33, false) }).run Tryd.prog w = .ok (.value (.int .i64 2)) w := by
    intro w ρ e7
    go_simp
  have x37v : ∀ (ρ : Operand → Value), ρ (.tmp 62) = .pointer (some ⟨a, 8, none⟩) → (execOp ρ { dst := some 63, op := Op.load 22 (Operand.tmp 62), type := 22, pos := p63, after := f63, guard := some (33, false) }).run Tryd.prog V = .ok (.value (.int .u64 3)) V := by
    intro ρ e62
    go_simp
  have x37w : ∀ (ρ : Operand → Value), ρ (.tmp 62) = .pointer (some ⟨a, 8, none⟩) → (execOp ρ { dst := some 63, op := Op.load 22 (Operand.tmp 62), type := 22, pos := p63, after := f63, guard := some (33, false) }).run Tryd.prog W2 = .ok (.value (.int .u64 3)) W2 := by
    intro ρ e62
    go_simp
  have x38 : ∀ (ρ : Operand → Value), (∀ v, ρ (.const v) = v) → (execOp ρ { dst := some 64, op := Op.buildSlice 39 3 #[(0, Operand.const (Value.int IntKind.u64 6)), (1, Operand.const (Value.int IntKind.u64 5)), (2, Operand.const (Value.int IntKind.u64 3))], type := 39, pos := p64, after := f64, guard := some (33, false) }).run Tryd.prog V = .ok (.value (.slice (some ⟨g, 0, none⟩) 3 3)) W2 := by
    intro ρ ec
    go_simp
  have x40 : ∀ (w : World) (ρ : Operand → Value), ρ (.tmp 64) = .slice (some ⟨g, 0, none⟩) 3 3 → ρ (.tmp 65) = .int .i64 2 → (execOp ρ { dst := some 66, op := Op.indexAddr 39 (Operand.tmp 64) (Operand.tmp 65), type := 0, pos := p66, after := f66, guard := some (33, false) }).run Tryd.prog w = .ok (.value (.pointer (some ⟨g, 2, none⟩))) w := by
    intro w ρ e64 e65
    go_simp
  have x41 : ∀ (ρ : Operand → Value), ρ (.tmp 66) = .pointer (some ⟨g, 2, none⟩) → (execOp ρ { dst := some 67, op := Op.load 22 (Operand.tmp 66), type := 22, pos := p67, after := f67, guard := some (33, false) }).run Tryd.prog W2 = .ok (.value (.int .u64 3)) W2 := by
    intro ρ e66
    go_simp
  have x42 : ∀ (w : World) (ρ : Operand → Value), ρ (.tmp 63) = .int .u64 3 → ρ (.tmp 67) = .int .u64 3 → (execOp ρ { dst := some 68, op := Op.binOp BinOp.neq 22 (Operand.tmp 63) (Operand.tmp 67) 22, type := 4, pos := p68, after := f68, guard := some (33, false) }).run Tryd.prog w = .ok (.value (.bool false)) w := by
    intro w ρ e63 e67
    go_simp
  have x43 : ∀ (w : World) (ρ : Operand → Value), ρ (.tmp 59) = .bool false → ρ (.tmp 68) = .bool false → (execOp ρ { dst := some 69, op := Op.pick (Operand.tmp 59) (Operand.const (Value.bool true)) (Operand.tmp 68), type := 4, pos := p69, after := f69, guard := none }).run Tryd.prog w = .ok (.value (.bool false)) w := by
    intro w ρ e59 e68
    go_simp
  have HW : ∀ (o : Oper) (B : Act), o.guard = some (33, false) → B.tmps[59]? = some (.bool false) → Region.wanted o (yielded ops B.tmps) = true := fun o B h1 h2 => by
    unfold Region.wanted yielded
    rw [h1]
    simp only [h33, Option.bind_some, h2]
    rfl
  refine wpAny_take h34 hs q34 c34 (fun c a w h => hQ c a w _ _ h) (Or.inl ⟨HW _ _ rfl (by simp [get_skip, a59]), fun w => x34 w _ (by simp [eval_skip, eval_hit, size_put, hsz, b3, b7, b59])⟩) ?_
  refine wpAny_take h35 hs q35 c35 (fun c a w h => hQ c a w _ _ h) (Or.inl ⟨HW _ _ rfl (by simp [get_skip, a59]), fun w => x35 w _ (by simp [eval_skip, eval_hit, size_put, hsz, b3, b7, b59]) (by simp [eval_skip, eval_hit, size_put, hsz, b3, b7, b59])⟩) ?_
  refine wpAny_take h36 hs q36 c36 (fun c a w h => hQ c a w _ _ h) (Or.inl ⟨HW _ _ rfl (by simp [get_skip, a59]), fun w => x36 w _ (by simp [eval_skip, eval_hit, size_put, hsz, b3, b7, b59])⟩) ?_
  refine wpAny_take h39 hs q39 c39 (fun c a w h => hQ c a w _ _ h) (Or.inl ⟨HW _ _ rfl (by simp [get_skip, a59]), fun w => x39 w _ (by simp [eval_skip, eval_hit, size_put, hsz, b3, b7, b59])⟩) ?_
  refine diamond 37 38 40 41 h37 h38 h40 h41 (by decide) (by decide) (by decide) r0 r1 r2 r3 r4 r5 r6 ⟨HW _ _ rfl (by simp [get_skip, a59]), x37v _ (by simp [eval_skip, eval_hit, size_put, hsz, b3, b7, b59])⟩ ⟨HW _ _ rfl (by simp [get_skip, a59]), x37w _ (by simp [eval_skip, eval_hit, size_put, hsz, b3, b7, b59])⟩ ⟨HW _ _ rfl (by simp [get_skip, a59]), x37w _ (by simp [eval_skip, eval_hit, size_put, hsz, b3, b7, b59])⟩ ⟨HW _ _ rfl (by simp [get_skip, a59]), x37w _ (by simp [eval_skip, eval_hit, size_put, hsz, b3, b7, b59])⟩ ⟨HW _ _ rfl (by simp [get_skip, a59]), x38 _  (fun _ => rfl)⟩ ⟨HW _ _ rfl (by simp [get_skip, a59]), x38 _  (fun _ => rfl)⟩ ⟨HW _ _ rfl (by simp [get_skip, a59]), x40 _ _ (by simp [eval_skip, eval_hit, size_put, hsz, b3, b7, b59]) (by simp [eval_skip, eval_hit, size_put, hsz, b3, b7, b59])⟩ ⟨HW _ _ rfl (by simp [get_skip, a59]), x40 _ _ (by simp [eval_skip, eval_hit, size_put, hsz, b3, b7, b59]) (by simp [eval_skip, eval_hit, size_put, hsz, b3, b7, b59])⟩ ⟨HW _ _ rfl (by simp [get_skip, a59]), x41 _ (by simp [eval_skip, eval_hit, size_put, hsz, b3, b7, b59])⟩ ⟨HW _ _ rfl (by simp [get_skip, a59]), x41 _ (by simp [eval_skip, eval_hit, size_put, hsz, b3, b7, b59])⟩ ?_ ?_ ?_ ?_
  · exact put_swap (by decide)
  · show Act.put (Act.put (Act.put _ (some 64) _) (some 66) _) (some 63) _ = Act.put (Act.put (Act.put _ (some 63) _) (some 64) _) (some 66) _
    rw [put_swap (d := 66) (e := 63) (by decide), put_swap (d := 64) (e := 63) (by decide)]
  · show Act.put (Act.put (Act.put (Act.put _ (some 64) _) (some 66) _) (some 67) _) (some 63) _ = Act.put (Act.put (Act.put (Act.put _ (some 63) _) (some 64) _) (some 66) _) (some 67) _
    rw [put_swap (d := 67) (e := 63) (by decide), put_swap (d := 66) (e := 63) (by decide), put_swap (d := 64) (e := 63) (by decide)]
  refine wpAny_take h42 hs q42 c42 (fun c a w h => hQ c a w _ _ h) (Or.inl ⟨HW _ _ rfl (by simp [get_skip, a59]), fun w => x42 w _ (by simp [eval_skip, eval_hit, size_put, hsz, b3, b7, b59]) (by simp [eval_skip, eval_hit, size_put, hsz, b3, b7, b59])⟩) ?_
  refine wpAny_take h43 hs q43 c43 (fun c a w h => hQ c a w _ _ h) (Or.inl ⟨rfl, fun w => x43 w _ (by simp [eval_skip, eval_hit, size_put, hsz, b3, b7, b59]) (by simp [eval_skip, eval_hit, size_put, hsz, b3, b7, b59])⟩) ?_
  exact wpAny_done rz fin _

end Go.Proofs.YtohgekhjaodehaaDoor
