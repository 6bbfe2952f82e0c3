/-
  The blocks that a call has made, all in one word: which they are, and what each holds. A law for each operation that makes, reads or writes one of them; what is left is a new world, of which that word says all that is known. Nothing here speaks of the program.
-/
import Derived.Test.YtcefgcoibppdaaaRow
import Derived.Deep.MidRow
namespace Go.Proofs.Ytcefgcoibppdaaa
open Go.RowKit

/-- l: the blocks made since W0, by number, element type and cells; below them nothing has turned -/
structure Own (W0 w : World) (l : List (Nat × TypeId × List Value)) : Prop where
  below : Below W0.heap.size W0 w
  whole : ∀ e ∈ l, W0.heap.size ≤ e.1 ∧ Whole w e.1 e.2.1 e.2.2
  apart : l.Pairwise fun e f => e.1 ≠ f.1

theorem Own.start (W : World) : Own W W [] := ⟨Below.refl _ _, by simp, .nil⟩
section
variable {W0 w w' : World} {l l' : List (Nat × TypeId × List Value)} {g : Nat} {t : TypeId} {cs cs' : List Value}
theorem Own.new (h : Own W0 w l) (t : TypeId) (cs : List Value) : Own W0 (w.alloc (.cells cs.toArray t)) ((w.heap.size, t, cs) :: l) := by
  refine ⟨h.below.alloc h.below.size _, ?_, ?_⟩
  · intro e he
    rcases List.mem_cons.1 he with rfl | he
    · exact ⟨h.below.size, Whole.fresh w t cs⟩
    · exact ⟨(h.whole e he).1, (h.whole e he).2.beside _⟩
  · refine .cons (fun e he => ?_) h.apart
    have := (h.whole e he).2.inside
    show w.heap.size ≠ e.1
    omega
theorem Own.call (h : Own W0 w l) (hb : Below w.heap.size w w') : Own W0 w' l :=
  ⟨h.below.trans (hb.mono h.below.size), fun e he => ⟨(h.whole e he).1, (h.whole e he).2.under hb (h.whole e he).2.inside⟩, h.apart⟩
theorem Own.drew (h : Own W0 w l) : Own W0 w.drew l := ⟨h.below.drew, fun e he => ⟨(h.whole e he).1, (h.whole e he).2⟩, h.apart⟩
theorem Own.forget {e : Nat × TypeId × List Value} (h : Own W0 w (e :: l)) : Own W0 w l := ⟨h.below, fun e he => h.whole e (by simp [he]), h.apart.of_cons⟩

end
/-- block g among them -/
inductive Sel : List (Nat × TypeId × List Value) → Nat → TypeId → List Value → Prop
  | z {l : List (Nat × TypeId × List Value)} {g : Nat} {t : TypeId} {cs : List Value} : Sel ((g, t, cs) :: l) g t cs
  | s {x : Nat × TypeId × List Value} {l : List (Nat × TypeId × List Value)} {g : Nat} {t : TypeId} {cs : List Value} : Sel l g t cs → Sel (x :: l) g t cs
/-- block g among them, and the same with other cells -/
inductive Put : List (Nat × TypeId × List Value) → Nat → TypeId → List Value → List Value → List (Nat × TypeId × List Value) → Prop
  | z {l : List (Nat × TypeId × List Value)} {g : Nat} {t : TypeId} {cs cs' : List Value} : Put ((g, t, cs) :: l) g t cs cs' ((g, t, cs') :: l)
  | s {x : Nat × TypeId × List Value} {l : List (Nat × TypeId × List Value)} {g : Nat} {t : TypeId} {cs cs' : List Value} {l' : List (Nat × TypeId × List Value)} : Put l g t cs cs' l' → Put (x :: l) g t cs cs' (x :: l')
/-- these cells from a place on -/
inductive Drop : List Value → Nat → List Value → Prop
  | z {l : List Value} : Drop l 0 l
  | s {x : Value} {l : List Value} {n : Nat} {r : List Value} : Drop l n r → Drop (x :: l) (n + 1) r
inductive Take : List Value → Nat → List Value → Prop
  | z {l : List Value} : Take l 0 []
  | s {x : Value} {l : List Value} {n : Nat} {r : List Value} : Take l n r → Take (x :: l) (n + 1) (x :: r)
/-- these cells, with others laid over from a place on -/
inductive Over : List Value → Nat → List Value → List Value → Prop
  | z {l : List Value} : Over l 0 [] l
  | p {x v : Value} {l vs r : List Value} : Over l 0 vs r → Over (x :: l) 0 (v :: vs) (v :: r)
  | s {x : Value} {l : List Value} {n : Nat} {vs r : List Value} : Over l n vs r → Over (x :: l) (n + 1) vs (x :: r)
section
variable {W0 w w' : World} {l l' : List (Nat × TypeId × List Value)} {g : Nat} {t : TypeId} {cs cs' : List Value}
theorem Sel.mem (h : Sel l g t cs) : (g, t, cs) ∈ l := by induction h <;> simp_all
theorem Put.mem (h : Put l g t cs cs' l') : (g, t, cs) ∈ l := by induction h <;> simp_all
theorem Put.mem' (h : Put l g t cs cs' l') : (g, t, cs') ∈ l' := by induction h <;> simp_all
theorem Put.all (h : Put l g t cs cs' l') : ∀ e ∈ l', e = (g, t, cs') ∨ e ∈ l := by
  induction h with
  | z => intro e he; rcases List.mem_cons.1 he with h | h <;> simp [h]
  | s _ ih =>
    intro e he
    rcases List.mem_cons.1 he with h | h
    · simp [h]
    · rcases ih e h with h | h <;> simp [h]
theorem Put.numbers (h : Put l g t cs cs' l') : l'.map (·.1) = l.map (·.1) := by induction h <;> simp_all
theorem Drop.eq {l r : List Value} {n : Nat} (h : Drop l n r) : l.drop n = r := by induction h <;> simp_all
theorem Take.eq {l r : List Value} {n : Nat} (h : Take l n r) : l.take n = r := by induction h <;> simp_all
theorem Take.len {l r : List Value} {n : Nat} (h : Take l n r) : r.length = n := by induction h <;> simp_all
theorem Over.eq {l vs r : List Value} {n : Nat} (h : Over l n vs r) : n + vs.length ≤ l.length ∧ l.take n ++ vs ++ l.drop (n + vs.length) = r := by
  induction h with
  | z => simp
  | p _ ih => simp only [Nat.zero_add, List.take_zero, List.nil_append, List.length_cons, List.drop_succ_cons] at ih ⊢; exact ⟨by omega, by simp [ih.2]⟩
  | s _ ih =>
    refine ⟨by simp only [List.length_cons]; omega, ?_⟩
    rename_i n vs r _
    rw [show n + 1 + vs.length = (n + vs.length) + 1 by omega, List.drop_succ_cons, List.take_succ_cons, List.cons_append, List.cons_append, ih.2]

theorem apart_of_numbers (l l' : List (Nat × TypeId × List Value)) (h : l'.map (·.1) = l.map (·.1)) (ha : l.Pairwise fun e f => e.1 ≠ f.1) : l'.Pairwise fun e f => e.1 ≠ f.1 := by
  have e1 : (l.map (·.1)).Pairwise (· ≠ ·) := List.pairwise_map.2 ha
  rw [← h] at e1
  exact List.pairwise_map.1 e1
theorem Own.of_row (h : Own W0 w l) (hp : Put l g t cs cs' l') : Own W0 (w.setRow g cs'.toArray) l' := by
  have hg := h.whole _ hp.mem
  refine ⟨h.below.trans (grown_below (setRow_grown w g _) hg.1 h.below.size), ?_, apart_of_numbers l l' hp.numbers h.apart⟩
  intro e he
  have hne : ∀ e ∈ l, e.1 = g → e = (g, t, cs) := by
    intro e he hEq
    rcases List.pairwise_iff_forall_sublist.1 h.apart with _
    by_cases hx : e = (g, t, cs)
    · exact hx
    · exfalso
      obtain ⟨i, hi, hie⟩ := List.getElem_of_mem he
      obtain ⟨j, hj, hje⟩ := List.getElem_of_mem hp.mem
      have hij : i ≠ j := by rintro rfl; rw [hie] at hje; exact hx hje
      have hpw := List.pairwise_iff_getElem.1 h.apart
      rcases Nat.lt_or_gt_of_ne hij with hlt | hgt
      · have := hpw i j hi hj hlt; rw [hie, hje] at this; exact this hEq
      · have := hpw j i hj hi hgt; rw [hie, hje] at this; exact this hEq.symm
  by_cases hx : e.1 = g
  · -- the block itself: the cells are the new ones
    rcases hp.all e he with rfl | hl
    · exact ⟨hg.1, setRow_heap w g _ _ t _ hg.2⟩
    · have e2 := hne e hl hx
      subst e2
      have hpw' := apart_of_numbers l l' hp.numbers h.apart
      -- both (g, t, cs) and (g, t, cs') would be in l'
      have hin := hp.mem'
      by_cases hs : cs = cs'
      · subst hs; exact ⟨hg.1, setRow_heap w g _ _ t _ hg.2⟩
      · exfalso
        obtain ⟨i, hi, hie⟩ := List.getElem_of_mem he
        obtain ⟨j, hj, hje⟩ := List.getElem_of_mem hin
        have hij : i ≠ j := by rintro rfl; rw [hie] at hje; injection hje with _ h2; injection h2 with _ h3; exact hs h3
        have hpw := List.pairwise_iff_getElem.1 hpw'
        rcases Nat.lt_or_gt_of_ne hij with hlt | hgt
        · have := hpw i j hi hj hlt; rw [hie, hje] at this; exact this rfl
        · have := hpw j i hj hi hgt; rw [hie, hje] at this; exact this rfl
  · rcases hp.all e he with rfl | hl
    · exact absurd rfl hx
    · exact ⟨(h.whole e hl).1, (h.whole e hl).2.grown (setRow_grown w g _) (fun k => hx (by cases k; rfl))⟩
theorem Put.get (h : Put l g t cs cs' l') : Sel l g t cs := by
  induction h with
  | z => exact .z
  | s _ ih => exact .s ih
theorem setCell_row (w : World) (g i : Nat) (t : TypeId) (cs : List Value) (v : Value) (hg : Whole w g t cs) : w.setCell ⟨g, i, none⟩ v = w.setRow g (cs.set i v).toArray := by
  rw [setCell_eq_setRow w g i cs.toArray t (0, 0) v hg, List.setIfInBounds_toArray]
theorem Own.of_cell (h : Own W0 w l) {v : Value} (i : Nat) (hp : Put l g t cs (cs.set i v) l') : Own W0 (w.setCell ⟨g, i, none⟩ v) l' := by
  rw [setCell_row w g i t cs v (h.whole _ hp.mem).2]
  exact h.of_row hp
theorem Own.at_ (h : Own W0 w l) (hs : Sel l g t cs) : Whole w g t cs := (h.whole _ hs.mem).2
end

/-- a type of so many cells, a struct or an array; of one cell; its zero value's cells -/
def Agg (P : Program) (ty : TypeId) (n : Nat) : Prop := (∃ d, P.underlying ty = some d ∧ d.isRow = true) ∧ (P.info? ty).map (·.size) = some n
def One (P : Program) (ty : TypeId) : Prop := (∃ d, P.underlying ty = some d ∧ d.isRow = false) ∧ (P.info? ty).map (·.size) = some 1
def Size (P : Program) (ty : TypeId) (n : Nat) : Prop := (P.info? ty).map (·.size) = some n
def Zero (P : Program) (ty : TypeId) (vs : List Value) : Prop := ∃ z, (∀ w, (zeroValue ty).run P w = .ok z w) ∧ z.cells = vs.toArray
theorem Agg.size {P : Program} {ty : TypeId} {n : Nat} (h : Agg P ty n) : Size P ty n := h.2
theorem One.size {P : Program} {ty : TypeId} (h : One P ty) : Size P ty 1 := h.2

section
variable {P : Program} {W0 w : World} {l l' : List (Nat × TypeId × List Value)} {ops : Array Oper} {rest : List Oper} {o : Oper} {a : Act} {Q : Exit → Act → World → Prop}
theorem wpList_wanted (hw : Region.wanted o (yielded ops a.tmps) = true) (h : ∀ K : Act → World → Prop, (∀ a w, wpList P ops Q rest a w → K a w) → o.wp P a w K Q) : wpList P ops Q (o :: rest) a w :=
  wpList_step fun K hK => by rw [if_pos hw]; exact h K hK

theorem run_loadVar_one (w : World) (g i : Nat) (ty : TypeId) (v : Value) (hc : w.cell? ⟨g, i, none⟩ = some v) (h : One P ty) : (loadVar ty ⟨g, i, none⟩).run P w = .ok v w := by
  obtain ⟨⟨d, hu, hd⟩, _⟩ := h
  have hagg : (isAgg ty).run P w = .ok false w := by
    unfold isAgg
    rw [Sem.run_bind, run_underlying hu w]
    cases d <;> simp_all [TypeDesc.isRow]
  simp [loadVar, Sem.run_bind, hagg, hc]

theorem own_box {ty : TypeId} {x : Operand} {v : Value} {vs : List Value} (HM : Hid (Own W0 w l)) (ho : o.op = .box ty x) (hy : a.eval x = v) (hv : v.cells = vs.toArray) (hw : Region.wanted o (yielded ops a.tmps) = true)
    (h : ∀ w' g, Hid (Own W0 w' ((g, ty, vs) :: l)) → wpList P ops Q rest (a.put o.dst (.pointer (some ⟨g, 0, none⟩))) w') : wpList P ops Q (o :: rest) a w := by
  refine wpList_wanted hw fun K hK => ?_
  unfold Oper.wp execOp
  simp only [ho, Instr.box, newVar, newRow, newObj, hy, hv]
  exact hK _ _ (h _ _ (HM.out.new ty vs))
theorem own_alloc {ty : TypeId} {vs : List Value} (HM : Hid (Own W0 w l)) (ho : o.op = .alloc ty) (hz : Zero P ty vs) (hw : Region.wanted o (yielded ops a.tmps) = true)
    (h : ∀ w' g, Hid (Own W0 w' ((g, ty, vs) :: l)) → wpList P ops Q rest (a.put o.dst (.pointer (some ⟨g, 0, none⟩))) w') : wpList P ops Q (o :: rest) a w := by
  refine wpList_wanted hw fun K hK => ?_
  obtain ⟨z, hz, hv⟩ := hz
  unfold Oper.wp execOp
  simp only [ho, Instr.alloc, Sem.run_bind, hz, Result.andThen_ok, newVar, newRow, newObj, hv]
  exact hK _ _ (h _ _ (HM.out.new ty vs))
theorem own_load {ty t : TypeId} {x : Operand} {g off n : Nat} {cs r vs : List Value} (HM : Hid (Own W0 w l)) (ho : o.op = .load ty x) (hx : a.eval x = .pointer (some ⟨g, off, none⟩)) (hty : Agg P ty n)
    (hs : Sel l g t cs) (hd : Drop cs off r) (ht : Take r n vs) (hw : Region.wanted o (yielded ops a.tmps) = true)
    (h : wpList P ops Q rest (a.put o.dst (.agg vs.toArray)) w) : wpList P ops Q (o :: rest) a w := by
  refine wpList_wanted hw fun K hK => ?_
  obtain ⟨⟨d, hu, hr⟩, hsz⟩ := hty
  refine wp_load_mid ty x ho g off hx vs d ?_ hu hr (by rw [ht.len]; exact hsz) (hK _ _ h)
  intro j v hv
  rw [(HM.out.at_ hs).at_]
  have e1 := hd.eq
  have e2 := ht.eq
  subst e1 e2
  rw [List.getElem?_take] at hv
  split at hv
  · rwa [List.getElem?_drop] at hv
  · cases hv
theorem own_cell {ty t : TypeId} {x : Operand} {g off : Nat} {cs r : List Value} {v : Value} (HM : Hid (Own W0 w l)) (ho : o.op = .load ty x) (hx : a.eval x = .pointer (some ⟨g, off, none⟩)) (hty : One P ty)
    (hs : Sel l g t cs) (hd : Drop cs off (v :: r)) (hw : Region.wanted o (yielded ops a.tmps) = true)
    (h : wpList P ops Q rest (a.put o.dst v) w) : wpList P ops Q (o :: rest) a w := by
  refine wpList_wanted hw fun K hK => ?_
  have hc : w.cell? ⟨g, off, none⟩ = some v := by
    rw [(HM.out.at_ hs).at_]
    have e1 := hd.eq
    have : (cs.drop off)[0]? = some v := by rw [e1]; rfl
    simpa using this
  unfold Oper.wp execOp
  simp only [ho, hx, Instr.loadAt, Instr.sureAddr, Sem.run_bind, Sem.run_pure, Result.andThen_ok, run_loadVar_one w g off ty v hc hty]
  exact hK _ _ h
theorem own_store {ty t : TypeId} {x y : Operand} {v : Value} {g off n : Nat} {cs cs' vs : List Value} (HM : Hid (Own W0 w l)) (ho : o.op = .store ty x y) (hx : a.eval x = .pointer (some ⟨g, off, none⟩)) (hy : a.eval y = v) (hv : v.cells = vs.toArray)
    (_hsel : Sel l g t cs) (hov : Over cs off vs cs') (hs : Put l g t cs cs' l') (hty : Size P ty n) (hn : vs.length = n) (h1 : vs.all (·.oneCell') = true) (hw : Region.wanted o (yielded ops a.tmps) = true)
    (hd : o.dst = none) (h : ∀ w', Hid (Own W0 w' l') → wpList P ops Q rest a w') : wpList P ops Q (o :: rest) a w := by
  have h : ∀ w', Hid (Own W0 w' l') → wpList P ops Q rest (a.put o.dst undef) w' := by rw [hd]; exact h
  refine wpList_wanted hw fun K hK => ?_
  obtain ⟨ho1, ho2⟩ := hov.eq
  have hwh := (HM.out.whole _ hs.mem).2
  have hrun := run_storeCells_at P g off t vs 0 cs.toArray w hwh (by simpa using ho1) (List.all_eq_true.1 h1)
  simp only [Nat.add_zero, ho2] at hrun
  have hrun' : (storeVar ty ⟨g, off, none⟩ (a.eval y)).run P w = .ok () (w.setRow g cs'.toArray) := by
    unfold Size at hty
    cases hq : P.info? ty with
    | none => simp [hq] at hty
    | some i =>
      have hi : i.size = n := by simpa [hq] using hty
      simp [storeVar, sizeOf, typeInfo, hq, hy, hv, hi, hn, hrun]
  unfold Oper.wp execOp
  simp only [ho, hx, Instr.storeAt, Instr.sureAddr, Sem.run_bind, Sem.run_pure, Result.andThen_ok, hrun']
  exact hK _ _ (h _ (HM.out.of_row hs))
/-- one cell, of a list that isn't written out -/
theorem own_put {ty t : TypeId} {x y : Operand} {v : Value} {g i : Nat} {cs : List Value} (HM : Hid (Own W0 w l)) (ho : o.op = .store ty x y) (hx : a.eval x = .pointer (some ⟨g, i, none⟩)) (hy : a.eval y = v)
    (hsel : Sel l g t cs) (hs : Put l g t cs (cs.set i v) l') (hty : Size P ty 1) (h1 : v.oneCell' = true) (hw : Region.wanted o (yielded ops a.tmps) = true) (hi : i < cs.length)
    (hd : o.dst = none) (h : ∀ w', Hid (Own W0 w' l') → wpList P ops Q rest a w') : wpList P ops Q (o :: rest) a w := by
  have h : ∀ w', Hid (Own W0 w' l') → wpList P ops Q rest (a.put o.dst undef) w' := by rw [hd]; exact h
  refine wpList_wanted hw fun K hK => ?_
  have hg := (HM.out.whole _ hsel.mem).2
  have hrun := run_storeVar_cell (P := P) w g i ty cs[i] v (by rw [hg.at_ i]; simp [hi]) (hg.free i) hty h1
  unfold Oper.wp execOp
  simp only [ho, hx, hy, Instr.storeAt, Instr.sureAddr, Sem.run_bind, Sem.run_pure, Result.andThen_ok, hrun]
  exact hK _ _ (h _ (HM.out.of_cell i hs))
/-- a struct or an array whole, of a list that isn't written out -/
theorem own_row {ty t : TypeId} {x : Operand} {g n : Nat} {cs : List Value} (HM : Hid (Own W0 w l)) (ho : o.op = .load ty x) (hx : a.eval x = .pointer (some ⟨g, 0, none⟩)) (hty : Agg P ty n)
    (hs : Sel l g t cs) (hw : Region.wanted o (yielded ops a.tmps) = true) (hl : cs.length = n)
    (h : wpList P ops Q rest (a.put o.dst (.agg cs.toArray)) w) : wpList P ops Q (o :: rest) a w := by
  refine wpList_wanted hw fun K hK => ?_
  obtain ⟨⟨d, hu, hr⟩, hsz⟩ := hty
  refine wp_load_mid ty x ho g 0 hx cs d ?_ hu hr (by rw [hl]; exact hsz) (hK _ _ h)
  intro j v hv
  rw [(HM.out.at_ hs).at_, Nat.zero_add]
  exact hv
/-- the same, written whole -/
theorem own_lay {ty t : TypeId} {x y : Operand} {g n : Nat} {cs vs : List Value} (HM : Hid (Own W0 w l)) (ho : o.op = .store ty x y) (hx : a.eval x = .pointer (some ⟨g, 0, none⟩)) (hv : a.eval y = .agg vs.toArray)
    (hsel : Sel l g t cs) (hs : Put l g t cs vs l') (hty : Size P ty n) (hn : vs.length = n) (hl : cs.length = n) (h1 : vs.all (·.oneCell') = true) (hw : Region.wanted o (yielded ops a.tmps) = true)
    (hd : o.dst = none) (h : ∀ w', Hid (Own W0 w' l') → wpList P ops Q rest a w') : wpList P ops Q (o :: rest) a w := by
  have h : ∀ w', Hid (Own W0 w' l') → wpList P ops Q rest (a.put o.dst undef) w' := by rw [hd]; exact h
  refine wpList_wanted hw fun K hK => ?_
  have hwh := (HM.out.whole _ hsel.mem).2
  exact wp_store_row ty x y ho g vs.toArray hx hv t cs.toArray hwh (by unfold Size at hty; simpa [hn] using hty) (by simp [hl, hn]) (by simpa using h1) (hK _ _ (h _ (HM.out.of_row hs)))
/-- a cell of a block that was there before -/
theorem own_old {ty : TypeId} {x : Operand} {p : Addr} {v : Value} (HM : Hid (Own W0 w l)) (ho : o.op = .load ty x) (hx : a.eval x = .pointer (some p)) (hty : One P ty)
    (hc : W0.cell? p = some v) (hp : p.spot = none) (hw : Region.wanted o (yielded ops a.tmps) = true) (h : wpList P ops Q rest (a.put o.dst v) w) : wpList P ops Q (o :: rest) a w := by
  refine wpList_wanted hw fun K hK => ?_
  have hc' : w.cell? p = some v := (HM.out.below.cell (block_lt_of_cell hc)).trans hc
  obtain ⟨g, off, s⟩ := p
  cases hp
  unfold Oper.wp execOp
  simp only [ho, hx, Instr.loadAt, Instr.sureAddr, Sem.run_bind, Sem.run_pure, Result.andThen_ok, run_loadVar_one w g off ty v hc' hty]
  exact hK _ _ h
/-- the results are a block's cells -/
theorem own_results {fn : Func} {p : Tmp} {ty t : TypeId} {g : Nat} {cs : List Value} (HM : Hid (Own W0 w l)) (h : fn.results = #[.cell p ty]) (tmps : Array Value) (hp : tmps.getD p undef = .pointer (some ⟨g, 0, none⟩)) (hs : Sel l g t cs)
    (hty : Agg P ty cs.length) : (results fn tmps).run P w = .ok (.agg cs.toArray) w := by
  obtain ⟨⟨d, hu, hr⟩, hsz⟩ := hty
  exact results_cell_row h tmps w g t cs.toArray (0, 0) d hp (HM.out.at_ hs) hu (by cases d <;> first | rfl | cases hr) (by simpa using hsz)
end

end Go.Proofs.Ytcefgcoibppdaaa
