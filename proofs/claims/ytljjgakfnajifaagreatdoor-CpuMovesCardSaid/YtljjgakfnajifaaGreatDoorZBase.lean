import Derived.Test.YtljjgakfnajifaaGreatDoorRows
import Derived.WalkKit
import Derived.WalkSpells
import Derived.WalkLawsBesides
import Derived.Lib.Hide
import Derived.Laws.CopyOwn
import Derived.Laws.Tables
import Derived.Laws.Rows
import Derived.Deep.MidRow
import Derived.BigQuiet
import Derived.Deep.AppendLies
import Derived.Laws.StructEq
import Derived.Laws.BitsAll
import Derived.StillTail
import Derived.Deep.Cut
namespace Go.Proofs.YtljjgakfnajifaaGreatDoor
theorem sS {P : Prop} (h : P := by with_reducible first | exact .z | exact .s .z | exact .s (.s .z) | exact .s (.s (.s .z)) | exact .s (.s (.s (.s .z)))) : P := h
theorem dS {P : Prop} (h : P := by focus repeat' (first | with_reducible exact .z | with_reducible apply Drop.s)) : P := h
theorem tS {P : Prop} (h : P := by focus repeat' (first | with_reducible exact .z | with_reducible apply Take.s)) : P := h
theorem vS {P : Prop} (h : P := by focus repeat' (first | with_reducible exact .z | with_reducible apply Over.p | with_reducible apply Over.s)) : P := h
theorem bS {P : Prop} (h : P := by focus repeat' (first | assumption | omega | exact Int.natCast_nonneg _ | with_reducible apply or8i | with_reducible apply xor8i | with_reducible apply or8 | with_reducible apply xor8 | ((with_reducible apply and8i'); omega) | ((with_reducible apply and8'); omega) | with_reducible apply and8i | with_reducible apply and8)) : P := h
theorem oS {P : Prop} (h : P := by with_reducible first | exact oneU8 | exact oneU16 | exact oneBool | exact oneInt) : P := h
theorem wS {P : Prop} (h : P := by first | (with_reducible exact oneU8) | (with_reducible exact oneU16) | (with_reducible exact oneBool) | (with_reducible exact oneWorld)) : P := h
theorem xS {P : Prop} (h : P := by first | (with_reducible exact oneU8) | (with_reducible exact oneU16) | (with_reducible exact oneBool) | (with_reducible exact oneWp)) : P := h
theorem bS3 {P : Prop} (h : P := by first | (with_reducible exact oneU8) | (with_reducible exact oneU16) | (with_reducible exact oneBool)) : P := h
theorem zS {P : Prop} (h : P := by first | (with_reducible exact oneU8.size) | (with_reducible exact oneU16.size) | (with_reducible exact oneBool.size) | (with_reducible exact oneInt.size)) : P := h
theorem lS {P : Prop} (h : P := by first | exact Rg.cells_length _ | exact rfl) : P := h
theorem sc_S {P : Prop} (h : P := by first | exact sc0 | exact sc1 | exact sc2 | exact sc3 | exact sc4 | exact sc5 | exact sc6 | exact sc7 | exact sc16 | exact sc17 | exact sc18 | exact sc19 | exact sc20 | exact sc21 | exact sc22 | exact sc23 | exact sc24 | exact sc25 | exact sc26 | exact sc27 | exact sc28 | exact sc30) : P := h
theorem cgS {P : Prop} (h : P := by refine ⟨?_, ?_, ?_, ?_, ?_⟩; exact rfl; exact rfl; exact oneOf (by decide); exact rfl; exact rfl) : P := h
theorem crS {P : Prop} (h : P := by refine ⟨?_, ?_, ?_⟩; exact rfl; exact rfl; exact rfl) : P := h
theorem clS {P : Prop} (h : P := by refine ⟨?_, ?_, ?_, ?_, ?_, ?_⟩; exact rfl; exact rfl; (conv => lhs; whnf); exact rfl; exact rfl; exact rfl) : P := h
theorem cpS {P : Prop} (h : P := by refine ⟨?_, ?_, ?_, ?_, ?_, ?_, ?_, ?_, ?_⟩; exact rfl; exact rfl; exact rfl; exact sc_S; exact (oneOf (by decide)).size; exact rfl; exact rfl; (show (_ : Nat) < 31; decide); exact rfl) : P := h
end Go.Proofs.YtljjgakfnajifaaGreatDoor
namespace Go.Proofs.YtljjgakfnajifaaGreatDoor
open Go.RowKit
def Whole (w : World) (g : Nat) (t : TypeId) (cs : List Value) : Prop := w.heap[g]? = some (.cells cs.toArray t (0, 0))
section
variable {w w' : World} {g : Nat} {t : TypeId} {cs : List Value}
theorem Whole.inside (h : Whole w g t cs) : g < w.heap.size := by
  rcases Nat.lt_or_ge g w.heap.size with hlt | hge
  · exact hlt
  · unfold Whole at h; rw [Array.getElem?_eq_none hge] at h; cases h
theorem Whole.at_ (h : Whole w g t cs) (i : Nat) : w.cell? ⟨g, i, none⟩ = cs[i]? := by
  rw [cell_of_row w g i cs.toArray t (0, 0) h]; simp
theorem Whole.free (h : Whole w g t cs) (i : Nat) : w.frozen? ⟨g, i, none⟩ = false := by
  unfold Whole at h; simp [World.frozen?, h]
theorem Whole.fresh (w : World) (t : TypeId) (cs : List Value) : Whole (w.alloc (.cells cs.toArray t)) w.heap.size t cs := heap_alloc_new w _
theorem Whole.drawn (h : Whole w g t cs) : Whole w.drew g t cs := h
theorem Whole.drawnN (h : Whole w g t cs) (n : Nat) : Whole (w.drewN n) g t cs := h
theorem Whole.beside (h : Whole w g t cs) (o : Obj) : Whole (w.alloc o) g t cs := (Below.heap_alloc w o g h.inside).trans h
theorem Whole.put (h : Whole w g t cs) (i : Nat) (u : Value) : Whole (w.setCell ⟨g, i, none⟩ u) g t (cs.set i u) := by
  unfold Whole at h ⊢
  simp [World.setCell, Array.getElem?_modify, h]
theorem Whole.other (h : Whole w g t cs) {p : Addr} (hp : g ≠ p.block) (u : Value) : Whole (w.setCell p u) g t cs := (Below.heap_setCell w p u g hp).trans h
theorem Whole.under {B : Nat} (h : Whole w g t cs) (hb : Below B w w') (hg : g < B) : Whole w' g t cs := (hb.block g hg).trans h
theorem Whole.grown {row : Option Nat} (h : Whole w g t cs) (hb : w.grownBy w' row) (hg : some g ≠ row) : Whole w' g t cs := (hb.block g h.inside hg).trans h
theorem Whole.apart {g' : Nat} {t' : TypeId} {cs' : List Value} (h : Whole w g t cs) (h' : Whole w g' t' cs') (hne : t ≠ t') : g ≠ g' := by
  rintro rfl
  unfold Whole at h h'
  rw [h] at h'
  injection h' with h'
  injection h' with _ ht
  exact hne ht
end
def u8s (zs : List Int) : List Value := zs.map (Value.int .u8)
@[simp] theorem u8s_length (zs : List Int) : (u8s zs).length = zs.length := by simp [u8s]
theorem u8s_get (zs : List Int) (i : Nat) : (u8s zs)[i]? = zs[i]?.map (Value.int .u8) := by simp [u8s]
theorem u8s_one (zs : List Int) : ∀ v ∈ u8s zs, v.oneCell' = true := by
  intro v hv
  simp only [u8s, List.mem_map] at hv
  obtain ⟨z, _, rfl⟩ := hv
  rfl
def Bytes (w : World) (B : Nat) (a : Option Addr) (n : Nat) (zs : List Int) : Prop :=
  zs.length = n ∧ (0 < n → ∃ g o, a = some ⟨g, o, none⟩ ∧ g < B ∧ ∀ i, i < n → w.cell? ⟨g, o + i, none⟩ = some (.int .u8 (zs.getD i 0)))
section
variable {w w' : World} {B B' n : Nat} {a : Option Addr} {zs : List Int}
theorem Bytes.keep (h : Bytes w B a n zs) (hk : ∀ p : Addr, p.block < B → w'.cell? p = w.cell? p) : Bytes w' B a n zs :=
  ⟨h.1, fun hn => by
    obtain ⟨g, o, e, hg, hc⟩ := h.2 hn
    exact ⟨g, o, e, hg, fun i hi => (hk _ hg).trans (hc i hi)⟩⟩
theorem Bytes.more (h : Bytes w B a n zs) (hB : B ≤ B') : Bytes w B' a n zs :=
  ⟨h.1, fun hn => by
    obtain ⟨g, o, e, hg, hc⟩ := h.2 hn
    exact ⟨g, o, e, by omega, hc⟩⟩
theorem Bytes.under (h : Bytes w B a n zs) (hb : Below B w w') : Bytes w' B a n zs := h.keep fun _ hp => hb.cell hp
theorem Bytes.drawn (h : Bytes w B a n zs) : Bytes w.drew B a n zs := h
theorem Bytes.take (h : Bytes w B a n zs) (m : Nat) (hm : m ≤ n) : Bytes w B a m (zs.take m) := by
  refine ⟨by rw [List.length_take, h.1]; omega, fun hp => ?_⟩
  obtain ⟨g, o, e, hg, hc⟩ := h.2 (by omega)
  refine ⟨g, o, e, hg, fun i hi => ?_⟩
  rw [hc i (by omega)]
  simp [List.getD_eq_getElem?_getD, hi]
theorem Bytes.ofWhole {g : Nat} {t : TypeId} (h : Whole w g t (u8s zs)) : Bytes w w.heap.size (some ⟨g, 0, none⟩) zs.length zs := by
  refine ⟨rfl, fun _ => ⟨g, 0, rfl, h.inside, fun i hi => ?_⟩⟩
  rw [Nat.zero_add, h.at_ i, u8s_get]
  simp [List.getD_eq_getElem?_getD, hi]
theorem Bytes.cells (h : Bytes w B a n zs) (hn : 0 < n) : ∃ ad, a = some ad ∧ ∀ j v, (u8s zs)[j]? = some v → w.cell? (ad.add j) = some v := by
  obtain ⟨g, o, e, hg, hc⟩ := h.2 hn
  refine ⟨_, e, fun j v hv => ?_⟩
  rw [u8s_get] at hv
  have hj : j < zs.length := by
    rcases Nat.lt_or_ge j zs.length with hlt | hge
    · exact hlt
    · rw [List.getElem?_eq_none hge] at hv; cases hv
  have ha : (⟨g, o, none⟩ : Addr).add j = ⟨g, o + j, none⟩ := by unfold Addr.add; split <;> simp_all
  rw [ha, hc j (by rw [← h.1]; exact hj)]
  simp [hj] at hv
  simp [List.getD_eq_getElem?_getD, hj, hv]
end
theorem setRow_grown (w : World) (g : Nat) (cs : Array Value) : w.grownBy (w.setRow g cs) (some g) :=
  ⟨rfl, rfl, rfl, by simp [World.setRow], fun k _ hne => setRow_other w g k cs (fun e => hne (by rw [e]))⟩
theorem copy_into {P : Program} {w : World} {ops : Array Oper} {rest : List Oper} {o : Oper} {a : Act} {Q : Exit → Act → World → Prop} (hgd : o.guard = none) (d s : Operand) (dT sT : TypeId)
    (ho : o.op = .call { callee := .builtin .copy, args := #[d, s], argTypes := #[dT, sT] }) (elem : TypeId) (hu : P.underlying dT = some (.slice elem)) (hsz : (P.info? elem).map (·.size) = some 1)
    (dp sp : Option Addr) (dLen dCap sLen sCap : Nat) (hd : a.eval d = .slice dp dLen dCap) (hs : a.eval s = .slice sp sLen sCap)
    (g off : Nat) (cur : List Value) (t : TypeId) (hg : Whole w g t cur) (cs : List Value) (hn : cs.length = Nat.min sLen dLen)
    (hpos : 0 < cs.length → dp = some ⟨g, off, none⟩ ∧ ∃ ad, sp = some ad ∧ ∀ j v, cs[j]? = some v → w.cell? (ad.add j) = some v)
    (hfit : off + cs.length ≤ cur.length) (h1 : ∀ v ∈ cs, v.oneCell' = true)
    (h : ∀ w', Hid (Whole w' g t (splice cur off cs)) → w.grownBy w' (some g) → wpList P ops Q rest (a.put o.dst (goInt cs.length)) w') :
    wpList P ops Q (o :: rest) a w := by
  by_cases h0 : cs.length = 0
  · obtain rfl : cs = [] := List.eq_nil_of_length_eq_zero h0
    refine wpList_copy_nothing hgd d s dT sT ho elem hu hsz dp sp dLen dCap sLen sCap hd hs (by simpa using hn.symm) ?_
    exact h w (show _ = _ by simpa [splice, Whole] using hg) ⟨rfl, rfl, rfl, Nat.le_refl _, fun _ _ _ => rfl⟩
  · obtain ⟨rfl, ad, rfl, hsrc⟩ := hpos (by omega)
    refine wpList_copy_own hgd d s dT sT ho elem hu hsz g off dLen dCap ad sLen sCap hd hs cur.toArray t hg cs hn hsrc (by simpa using hfit) h1 ?_
    exact h _ (show _ = _ by simpa [splice] using setRow_heap w g _ _ t _ hg) (setRow_grown w g _)
end Go.Proofs.YtljjgakfnajifaaGreatDoor
namespace Go.Proofs.YtljjgakfnajifaaGreatDoor
open Go.RowKit
theorem grown_below {w w' : World} {B g : Nat} (h : w.grownBy w' (some g)) (hg : B ≤ g) (hB : B ≤ w.heap.size) : Below B w w' :=
  (Below.refl B w).grown h hB (fun k hk => by cases hk; exact hg)
theorem grown_size {w w' : World} {r : Option Nat} (h : w.grownBy w' r) : w.heap.size ≤ w'.heap.size := h.size
theorem load_row {P : Program} {w : World} {ops : Array Oper} {rest : List Oper} {o : Oper} {a : Act} {Q : Exit → Act → World → Prop} (hgd : o.guard = none) (ty : TypeId) (x : Operand) (ho : o.op = .load ty x)
    (g : Nat) (hx : a.eval x = .pointer (some ⟨g, 0, none⟩)) (t : TypeId) (cs : List Value) (d : TypeDesc) (hg : Whole w g t cs)
    (hu : P.underlying ty = some d) (hd : (match d with | .struct _ | .array _ _ => true | _ => false) = true) (hi : (P.info? ty).map (·.size) = some cs.length)
    (h : wpList P ops Q rest (a.put o.dst (.agg cs.toArray)) w) : wpList P ops Q (o :: rest) a w :=
  wpList_load_row hgd ty x ho g hx t cs.toArray (0, 0) d hg hu hd (by simpa using hi) h
theorem store_row {P : Program} {w : World} {ops : Array Oper} {rest : List Oper} {o : Oper} {a : Act} {Q : Exit → Act → World → Prop} (hgd : o.guard = none) (ty : TypeId) (x y : Operand) (ho : o.op = .store ty x y)
    (g : Nat) (hx : a.eval x = .pointer (some ⟨g, 0, none⟩)) (cs : List Value) (hy : a.eval y = .agg cs.toArray) (t : TypeId) (old : List Value) (hg : Whole w g t old)
    (hi : (P.info? ty).map (·.size) = some cs.length) (hold : old.length = cs.length) (h1 : cs.all (·.oneCell') = true)
    (h : ∀ w', Hid (Whole w' g t cs) → w.grownBy w' (some g) → wpList P ops Q rest (a.put o.dst undef) w') : wpList P ops Q (o :: rest) a w :=
  wpList_store_row hgd ty x y ho g cs.toArray hx hy t old.toArray hg (by simpa using hi) (by simpa using hold) (by simpa using h1)
    (h _ (show _ = _ from setRow_heap w g _ _ t _ hg) (setRow_grown w g _))
theorem run_storeVar_cell {P : Program} (w : World) (g i : Nat) (ty : TypeId) (u v : Value) (hc : w.cell? ⟨g, i, none⟩ = some u) (hf : w.frozen? ⟨g, i, none⟩ = false)
    (hi : (P.info? ty).map (·.size) = some 1) (h1 : v.oneCell' = true) : (storeVar ty ⟨g, i, none⟩ v).run P w = .ok () (w.setCell ⟨g, i, none⟩ v) := by
  have hcs : v.cells = #[v] := by cases v <;> first | rfl | cases h1
  have hst : (store ((⟨g, i, none⟩ : Addr).add 0) v).run P w = .ok () (w.setCell ⟨g, i, none⟩ v) := by
    have hadd : (⟨g, i, none⟩ : Addr).add 0 = ⟨g, i, none⟩ := by unfold Addr.add; split <;> simp_all
    rw [hadd, run_store P w _ v _ h1, hc]
    simp [hf]
  cases hq : P.info? ty with
  | none => simp [hq] at hi
  | some q =>
    have hs : q.size = 1 := by simpa [hq] using hi
    simp [storeVar, sizeOf, typeInfo, hq, hcs, hs, storeCells, hst]
theorem put_cell {P : Program} {w : World} {ops : Array Oper} {rest : List Oper} {o : Oper} {a : Act} {Q : Exit → Act → World → Prop} (hgd : o.guard = none) (ty : TypeId) (x y : Operand) (ho : o.op = .store ty x y)
    (g i : Nat) (hx : a.eval x = .pointer (some ⟨g, i, none⟩)) (v : Value) (hy : a.eval y = v) (t : TypeId) (old : List Value) (hg : Whole w g t old) (hlt : i < old.length)
    (hi : (P.info? ty).map (·.size) = some 1) (h1 : v.oneCell' = true)
    (h : ∀ w', Hid (Whole w' g t (old.set i v)) → w.grownBy w' (some g) → wpList P ops Q rest (a.put o.dst undef) w') : wpList P ops Q (o :: rest) a w := by
  refine wpList_plain hgd fun K hK => ?_
  have hrun := run_storeVar_cell (P := P) w g i ty old[i] v (by rw [hg.at_ i]; simp [hlt]) (hg.free i) hi h1
  unfold Oper.wp execOp
  simp only [ho, hx, hy, Instr.storeAt, Instr.sureAddr, Sem.run_bind, Sem.run_pure, Result.andThen_ok, hrun]
  refine hK _ _ (h _ (hg.put i v) ?_)
  exact ⟨rfl, rfl, rfl, by simp [World.setCell], fun k _ hne => Below.heap_setCell w _ v k (fun e => hne (by rw [e]))⟩
theorem results_row {P : Program} {fn : Func} {p : Tmp} {ty : TypeId} (h : fn.results = #[.cell p ty]) (tmps : Array Value) (w : World) (g : Nat) (t : TypeId) (cs : List Value) (d : TypeDesc)
    (hp : tmps.getD p undef = .pointer (some ⟨g, 0, none⟩)) (hg : Whole w g t cs)
    (hu : P.underlying ty = some d) (hd : (match d with | .struct _ | .array _ _ => true | _ => false) = true) (hi : (P.info? ty).map (·.size) = some cs.length) :
    (results fn tmps).run P w = .ok (.agg cs.toArray) w :=
  results_cell_row h tmps w g t cs.toArray (0, 0) d hp hg hu hd (by simpa using hi)
def i64s (zs : List Int) : List Value := zs.map (Value.int .i64)
@[simp] theorem i64s_length (zs : List Int) : (i64s zs).length = zs.length := by simp [i64s]
theorem i64s_get (zs : List Int) (i : Nat) : (i64s zs)[i]? = zs[i]?.map (Value.int .i64) := by simp [i64s]
theorem i64s_set (zs : List Int) (i : Nat) (z : Int) : (i64s zs).set i (.int .i64 z) = i64s (zs.set i z) := by simp [i64s, List.map_set]
theorem i64s_one (zs : List Int) : (i64s zs).all (·.oneCell') = true := by
  rw [List.all_eq_true]
  intro v hv
  simp only [i64s, List.mem_map] at hv
  obtain ⟨z, _, rfl⟩ := hv
  rfl
end Go.Proofs.YtljjgakfnajifaaGreatDoor
namespace Go.Proofs.YtljjgakfnajifaaGreatDoor
open Go.RowKit
structure Own (W0 w : World) (l : List (Nat × TypeId × List Value)) : Prop where
  below : Below W0.heap.size W0 w
  whole : ∀ e ∈ l, W0.heap.size ≤ e.1 ∧ Whole w e.1 e.2.1 e.2.2
  apart : l.Pairwise fun e f => e.1 ≠ f.1
theorem Own.start (W : World) : Own W W [] := ⟨Below.refl _ _, by simp, .nil⟩
section
variable {W0 w w' : World} {l l' : List (Nat × TypeId × List Value)} {g : Nat} {t : TypeId} {cs cs' : List Value}
theorem Own.new (h : Own W0 w l) (t : TypeId) (cs : List Value) : Own W0 (w.alloc (.cells cs.toArray t)) ((w.heap.size, t, cs) :: l) := by
  refine ⟨h.below.alloc h.below.size _, ?_, ?_⟩
  · intro e he
    rcases List.mem_cons.1 he with rfl | he
    · exact ⟨h.below.size, Whole.fresh w t cs⟩
    · exact ⟨(h.whole e he).1, (h.whole e he).2.beside _⟩
  · refine .cons (fun e he => ?_) h.apart
    have := (h.whole e he).2.inside
    show w.heap.size ≠ e.1
    omega
theorem Own.call (h : Own W0 w l) (hb : Below w.heap.size w w') : Own W0 w' l :=
  ⟨h.below.trans (hb.mono h.below.size), fun e he => ⟨(h.whole e he).1, (h.whole e he).2.under hb (h.whole e he).2.inside⟩, h.apart⟩
theorem Own.drew (h : Own W0 w l) : Own W0 w.drew l := ⟨h.below.drew, fun e he => ⟨(h.whole e he).1, (h.whole e he).2⟩, h.apart⟩
theorem Own.forget {e : Nat × TypeId × List Value} (h : Own W0 w (e :: l)) : Own W0 w l := ⟨h.below, fun e he => h.whole e (by simp [he]), h.apart.of_cons⟩
end
inductive Sel : List (Nat × TypeId × List Value) → Nat → TypeId → List Value → Prop
  | z {l : List (Nat × TypeId × List Value)} {g : Nat} {t : TypeId} {cs : List Value} : Sel ((g, t, cs) :: l) g t cs
  | s {x : Nat × TypeId × List Value} {l : List (Nat × TypeId × List Value)} {g : Nat} {t : TypeId} {cs : List Value} : Sel l g t cs → Sel (x :: l) g t cs
inductive Put : List (Nat × TypeId × List Value) → Nat → TypeId → List Value → List Value → List (Nat × TypeId × List Value) → Prop
  | z {l : List (Nat × TypeId × List Value)} {g : Nat} {t : TypeId} {cs cs' : List Value} : Put ((g, t, cs) :: l) g t cs cs' ((g, t, cs') :: l)
  | s {x : Nat × TypeId × List Value} {l : List (Nat × TypeId × List Value)} {g : Nat} {t : TypeId} {cs cs' : List Value} {l' : List (Nat × TypeId × List Value)} : Put l g t cs cs' l' → Put (x :: l) g t cs cs' (x :: l')
inductive Drop : List Value → Nat → List Value → Prop
  | z {l : List Value} : Drop l 0 l
  | s {x : Value} {l : List Value} {n : Nat} {r : List Value} : Drop l n r → Drop (x :: l) (n + 1) r
inductive Take : List Value → Nat → List Value → Prop
  | z {l : List Value} : Take l 0 []
  | s {x : Value} {l : List Value} {n : Nat} {r : List Value} : Take l n r → Take (x :: l) (n + 1) (x :: r)
inductive Over : List Value → Nat → List Value → List Value → Prop
  | z {l : List Value} : Over l 0 [] l
  | p {x v : Value} {l vs r : List Value} : Over l 0 vs r → Over (x :: l) 0 (v :: vs) (v :: r)
  | s {x : Value} {l : List Value} {n : Nat} {vs r : List Value} : Over l n vs r → Over (x :: l) (n + 1) vs (x :: r)
section
variable {W0 w w' : World} {l l' : List (Nat × TypeId × List Value)} {g : Nat} {t : TypeId} {cs cs' : List Value}
theorem Sel.mem (h : Sel l g t cs) : (g, t, cs) ∈ l := by induction h <;> simp_all
theorem Put.mem (h : Put l g t cs cs' l') : (g, t, cs) ∈ l := by induction h <;> simp_all
theorem Put.mem' (h : Put l g t cs cs' l') : (g, t, cs') ∈ l' := by induction h <;> simp_all
theorem Put.all (h : Put l g t cs cs' l') : ∀ e ∈ l', e = (g, t, cs') ∨ e ∈ l := by
  induction h with
  | z => intro e he; rcases List.mem_cons.1 he with h | h <;> simp [h]
  | s _ ih =>
    intro e he
    rcases List.mem_cons.1 he with h | h
    · simp [h]
    · rcases ih e h with h | h <;> simp [h]
theorem Put.numbers (h : Put l g t cs cs' l') : l'.map (·.1) = l.map (·.1) := by induction h <;> simp_all
theorem Drop.eq {l r : List Value} {n : Nat} (h : Drop l n r) : l.drop n = r := by induction h <;> simp_all
theorem Take.eq {l r : List Value} {n : Nat} (h : Take l n r) : l.take n = r := by induction h <;> simp_all
theorem Take.len {l r : List Value} {n : Nat} (h : Take l n r) : r.length = n := by induction h <;> simp_all
theorem Over.eq {l vs r : List Value} {n : Nat} (h : Over l n vs r) : n + vs.length ≤ l.length ∧ l.take n ++ vs ++ l.drop (n + vs.length) = r := by
  induction h with
  | z => simp
  | p _ ih => simp only [Nat.zero_add, List.take_zero, List.nil_append, List.length_cons, List.drop_succ_cons] at ih ⊢; exact ⟨by omega, by simp [ih.2]⟩
  | s _ ih =>
    refine ⟨by simp only [List.length_cons]; omega, ?_⟩
    rename_i n vs r _
    rw [show n + 1 + vs.length = (n + vs.length) + 1 by omega, List.drop_succ_cons, List.take_succ_cons, List.cons_append, List.cons_append, ih.2]
theorem apart_of_numbers (l l' : List (Nat × TypeId × List Value)) (h : l'.map (·.1) = l.map (·.1)) (ha : l.Pairwise fun e f => e.1 ≠ f.1) : l'.Pairwise fun e f => e.1 ≠ f.1 := by
  have e1 : (l.map (·.1)).Pairwise (· ≠ ·) := List.pairwise_map.2 ha
  rw [← h] at e1
  exact List.pairwise_map.1 e1
theorem Own.of_row (h : Own W0 w l) (hp : Put l g t cs cs' l') : Own W0 (w.setRow g cs'.toArray) l' := by
  have hg := h.whole _ hp.mem
  refine ⟨h.below.trans (grown_below (setRow_grown w g _) hg.1 h.below.size), ?_, apart_of_numbers l l' hp.numbers h.apart⟩
  intro e he
  have hne : ∀ e ∈ l, e.1 = g → e = (g, t, cs) := by
    intro e he hEq
    rcases List.pairwise_iff_forall_sublist.1 h.apart with _
    by_cases hx : e = (g, t, cs)
    · exact hx
    · exfalso
      obtain ⟨i, hi, hie⟩ := List.getElem_of_mem he
      obtain ⟨j, hj, hje⟩ := List.getElem_of_mem hp.mem
      have hij : i ≠ j := by rintro rfl; rw [hie] at hje; exact hx hje
      have hpw := List.pairwise_iff_getElem.1 h.apart
      rcases Nat.lt_or_gt_of_ne hij with hlt | hgt
      · have := hpw i j hi hj hlt; rw [hie, hje] at this; exact this hEq
      · have := hpw j i hj hi hgt; rw [hie, hje] at this; exact this hEq.symm
  by_cases hx : e.1 = g
  · -- the block itself: the cells are the new ones
    rcases hp.all e he with rfl | hl
    · exact ⟨hg.1, setRow_heap w g _ _ t _ hg.2⟩
    · have e2 := hne e hl hx
      subst e2
      have hpw' := apart_of_numbers l l' hp.numbers h.apart
      -- both (g, t, cs) and (g, t, cs') would be in l'
      have hin := hp.mem'
      by_cases hs : cs = cs'
      · subst hs; exact ⟨hg.1, setRow_heap w g _ _ t _ hg.2⟩
      · exfalso
        obtain ⟨i, hi, hie⟩ := List.getElem_of_mem he
        obtain ⟨j, hj, hje⟩ := List.getElem_of_mem hin
        have hij : i ≠ j := by rintro rfl; rw [hie] at hje; injection hje with _ h2; injection h2 with _ h3; exact hs h3
        have hpw := List.pairwise_iff_getElem.1 hpw'
        rcases Nat.lt_or_gt_of_ne hij with hlt | hgt
        · have := hpw i j hi hj hlt; rw [hie, hje] at this; exact this rfl
        · have := hpw j i hj hi hgt; rw [hie, hje] at this; exact this rfl
  · rcases hp.all e he with rfl | hl
    · exact absurd rfl hx
    · exact ⟨(h.whole e hl).1, (h.whole e hl).2.grown (setRow_grown w g _) (fun k => hx (by cases k; rfl))⟩
theorem Put.get (h : Put l g t cs cs' l') : Sel l g t cs := by
  induction h with
  | z => exact .z
  | s _ ih => exact .s ih
theorem setCell_row (w : World) (g i : Nat) (t : TypeId) (cs : List Value) (v : Value) (hg : Whole w g t cs) : w.setCell ⟨g, i, none⟩ v = w.setRow g (cs.set i v).toArray := by
  rw [setCell_eq_setRow w g i cs.toArray t (0, 0) v hg, List.setIfInBounds_toArray]
theorem Own.of_cell (h : Own W0 w l) {v : Value} (i : Nat) (hp : Put l g t cs (cs.set i v) l') : Own W0 (w.setCell ⟨g, i, none⟩ v) l' := by
  rw [setCell_row w g i t cs v (h.whole _ hp.mem).2]
  exact h.of_row hp
theorem Own.at_ (h : Own W0 w l) (hs : Sel l g t cs) : Whole w g t cs := (h.whole _ hs.mem).2
end
def Agg (P : Program) (ty : TypeId) (n : Nat) : Prop := (∃ d, P.underlying ty = some d ∧ d.isRow = true) ∧ (P.info? ty).map (·.size) = some n
def One (P : Program) (ty : TypeId) : Prop := (∃ d, P.underlying ty = some d ∧ d.isRow = false) ∧ (P.info? ty).map (·.size) = some 1
def Size (P : Program) (ty : TypeId) (n : Nat) : Prop := (P.info? ty).map (·.size) = some n
def Zero (P : Program) (ty : TypeId) (vs : List Value) : Prop := ∃ z, (∀ w, (zeroValue ty).run P w = .ok z w) ∧ z.cells = vs.toArray
theorem Agg.size {P : Program} {ty : TypeId} {n : Nat} (h : Agg P ty n) : Size P ty n := h.2
theorem One.size {P : Program} {ty : TypeId} (h : One P ty) : Size P ty 1 := h.2
section
variable {P : Program} {W0 w : World} {l l' : List (Nat × TypeId × List Value)} {ops : Array Oper} {rest : List Oper} {o : Oper} {a : Act} {Q : Exit → Act → World → Prop}
theorem wpList_wanted (hw : Region.wanted o (yielded ops a.tmps) = true) (h : ∀ K : Act → World → Prop, (∀ a w, wpList P ops Q rest a w → K a w) → o.wp P a w K Q) : wpList P ops Q (o :: rest) a w :=
  wpList_step fun K hK => by rw [if_pos hw]; exact h K hK
theorem run_loadVar_one (w : World) (g i : Nat) (ty : TypeId) (v : Value) (hc : w.cell? ⟨g, i, none⟩ = some v) (h : One P ty) : (loadVar ty ⟨g, i, none⟩).run P w = .ok v w := by
  obtain ⟨⟨d, hu, hd⟩, _⟩ := h
  have hagg : (isAgg ty).run P w = .ok false w := by
    unfold isAgg
    rw [Sem.run_bind, run_underlying hu w]
    cases d <;> simp_all [TypeDesc.isRow]
  simp [loadVar, Sem.run_bind, hagg, hc]
theorem own_box {ty : TypeId} {x : Operand} {v : Value} {vs : List Value} (HM : Hid (Own W0 w l)) (ho : o.op = .box ty x) (hy : a.eval x = v) (hv : v.cells = vs.toArray) (hw : Region.wanted o (yielded ops a.tmps) = true)
    (h : ∀ w' g, Hid (Own W0 w' ((g, ty, vs) :: l)) → wpList P ops Q rest (a.put o.dst (.pointer (some ⟨g, 0, none⟩))) w') : wpList P ops Q (o :: rest) a w := by
  refine wpList_wanted hw fun K hK => ?_
  unfold Oper.wp execOp
  simp only [ho, Instr.box, newVar, newRow, newObj, hy, hv]
  exact hK _ _ (h _ _ (HM.out.new ty vs))
theorem own_alloc {ty : TypeId} {vs : List Value} (HM : Hid (Own W0 w l)) (ho : o.op = .alloc ty) (hz : Zero P ty vs) (hw : Region.wanted o (yielded ops a.tmps) = true)
    (h : ∀ w' g, Hid (Own W0 w' ((g, ty, vs) :: l)) → wpList P ops Q rest (a.put o.dst (.pointer (some ⟨g, 0, none⟩))) w') : wpList P ops Q (o :: rest) a w := by
  refine wpList_wanted hw fun K hK => ?_
  obtain ⟨z, hz, hv⟩ := hz
  unfold Oper.wp execOp
  simp only [ho, Instr.alloc, Sem.run_bind, hz, Result.andThen_ok, newVar, newRow, newObj, hv]
  exact hK _ _ (h _ _ (HM.out.new ty vs))
theorem own_load {ty t : TypeId} {x : Operand} {g off n : Nat} {cs r vs : List Value} (HM : Hid (Own W0 w l)) (ho : o.op = .load ty x) (hx : a.eval x = .pointer (some ⟨g, off, none⟩)) (hty : Agg P ty n)
    (hs : Sel l g t cs) (hd : Drop cs off r) (ht : Take r n vs) (hw : Region.wanted o (yielded ops a.tmps) = true)
    (h : wpList P ops Q rest (a.put o.dst (.agg vs.toArray)) w) : wpList P ops Q (o :: rest) a w := by
  refine wpList_wanted hw fun K hK => ?_
  obtain ⟨⟨d, hu, hr⟩, hsz⟩ := hty
  refine wp_load_mid ty x ho g off hx vs d ?_ hu hr (by rw [ht.len]; exact hsz) (hK _ _ h)
  intro j v hv
  rw [(HM.out.at_ hs).at_]
  have e1 := hd.eq
  have e2 := ht.eq
  subst e1 e2
  rw [List.getElem?_take] at hv
  split at hv
  · rwa [List.getElem?_drop] at hv
  · cases hv
theorem own_cell {ty t : TypeId} {x : Operand} {g off : Nat} {cs r : List Value} {v : Value} (HM : Hid (Own W0 w l)) (ho : o.op = .load ty x) (hx : a.eval x = .pointer (some ⟨g, off, none⟩)) (hty : One P ty)
    (hs : Sel l g t cs) (hd : Drop cs off (v :: r)) (hw : Region.wanted o (yielded ops a.tmps) = true)
    (h : wpList P ops Q rest (a.put o.dst v) w) : wpList P ops Q (o :: rest) a w := by
  refine wpList_wanted hw fun K hK => ?_
  have hc : w.cell? ⟨g, off, none⟩ = some v := by
    rw [(HM.out.at_ hs).at_]
    have e1 := hd.eq
    have : (cs.drop off)[0]? = some v := by rw [e1]; rfl
    simpa using this
  unfold Oper.wp execOp
  simp only [ho, hx, Instr.loadAt, Instr.sureAddr, Sem.run_bind, Sem.run_pure, Result.andThen_ok, run_loadVar_one w g off ty v hc hty]
  exact hK _ _ h
theorem own_store {ty t : TypeId} {x y : Operand} {v : Value} {g off n : Nat} {cs cs' vs : List Value} (HM : Hid (Own W0 w l)) (ho : o.op = .store ty x y) (hx : a.eval x = .pointer (some ⟨g, off, none⟩)) (hy : a.eval y = v) (hv : v.cells = vs.toArray)
    (_hsel : Sel l g t cs) (hov : Over cs off vs cs') (hs : Put l g t cs cs' l') (hty : Size P ty n) (hn : vs.length = n) (h1 : vs.all (·.oneCell') = true) (hw : Region.wanted o (yielded ops a.tmps) = true)
    (hd : o.dst = none) (h : ∀ w', Hid (Own W0 w' l') → wpList P ops Q rest a w') : wpList P ops Q (o :: rest) a w := by
  have h : ∀ w', Hid (Own W0 w' l') → wpList P ops Q rest (a.put o.dst undef) w' := by rw [hd]; exact h
  refine wpList_wanted hw fun K hK => ?_
  obtain ⟨ho1, ho2⟩ := hov.eq
  have hwh := (HM.out.whole _ hs.mem).2
  have hrun := run_storeCells_at P g off t vs 0 cs.toArray w hwh (by simpa using ho1) (List.all_eq_true.1 h1)
  simp only [Nat.add_zero, ho2] at hrun
  have hrun' : (storeVar ty ⟨g, off, none⟩ (a.eval y)).run P w = .ok () (w.setRow g cs'.toArray) := by
    unfold Size at hty
    cases hq : P.info? ty with
    | none => simp [hq] at hty
    | some i =>
      have hi : i.size = n := by simpa [hq] using hty
      simp [storeVar, sizeOf, typeInfo, hq, hy, hv, hi, hn, hrun]
  unfold Oper.wp execOp
  simp only [ho, hx, Instr.storeAt, Instr.sureAddr, Sem.run_bind, Sem.run_pure, Result.andThen_ok, hrun']
  exact hK _ _ (h _ (HM.out.of_row hs))
theorem own_put {ty t : TypeId} {x y : Operand} {v : Value} {g i : Nat} {cs : List Value} (HM : Hid (Own W0 w l)) (ho : o.op = .store ty x y) (hx : a.eval x = .pointer (some ⟨g, i, none⟩)) (hy : a.eval y = v)
    (hsel : Sel l g t cs) (hs : Put l g t cs (cs.set i v) l') (hty : Size P ty 1) (h1 : v.oneCell' = true) (hw : Region.wanted o (yielded ops a.tmps) = true) (hi : i < cs.length)
    (hd : o.dst = none) (h : ∀ w', Hid (Own W0 w' l') → wpList P ops Q rest a w') : wpList P ops Q (o :: rest) a w := by
  have h : ∀ w', Hid (Own W0 w' l') → wpList P ops Q rest (a.put o.dst undef) w' := by rw [hd]; exact h
  refine wpList_wanted hw fun K hK => ?_
  have hg := (HM.out.whole _ hsel.mem).2
  have hrun := run_storeVar_cell (P := P) w g i ty cs[i] v (by rw [hg.at_ i]; simp [hi]) (hg.free i) hty h1
  unfold Oper.wp execOp
  simp only [ho, hx, hy, Instr.storeAt, Instr.sureAddr, Sem.run_bind, Sem.run_pure, Result.andThen_ok, hrun]
  exact hK _ _ (h _ (HM.out.of_cell i hs))
theorem own_row {ty t : TypeId} {x : Operand} {g n : Nat} {cs : List Value} (HM : Hid (Own W0 w l)) (ho : o.op = .load ty x) (hx : a.eval x = .pointer (some ⟨g, 0, none⟩)) (hty : Agg P ty n)
    (hs : Sel l g t cs) (hw : Region.wanted o (yielded ops a.tmps) = true) (hl : cs.length = n)
    (h : wpList P ops Q rest (a.put o.dst (.agg cs.toArray)) w) : wpList P ops Q (o :: rest) a w := by
  refine wpList_wanted hw fun K hK => ?_
  obtain ⟨⟨d, hu, hr⟩, hsz⟩ := hty
  refine wp_load_mid ty x ho g 0 hx cs d ?_ hu hr (by rw [hl]; exact hsz) (hK _ _ h)
  intro j v hv
  rw [(HM.out.at_ hs).at_, Nat.zero_add]
  exact hv
theorem own_lay {ty t : TypeId} {x y : Operand} {g n : Nat} {cs vs : List Value} (HM : Hid (Own W0 w l)) (ho : o.op = .store ty x y) (hx : a.eval x = .pointer (some ⟨g, 0, none⟩)) (hv : a.eval y = .agg vs.toArray)
    (hsel : Sel l g t cs) (hs : Put l g t cs vs l') (hty : Size P ty n) (hn : vs.length = n) (hl : cs.length = n) (h1 : vs.all (·.oneCell') = true) (hw : Region.wanted o (yielded ops a.tmps) = true)
    (hd : o.dst = none) (h : ∀ w', Hid (Own W0 w' l') → wpList P ops Q rest a w') : wpList P ops Q (o :: rest) a w := by
  have h : ∀ w', Hid (Own W0 w' l') → wpList P ops Q rest (a.put o.dst undef) w' := by rw [hd]; exact h
  refine wpList_wanted hw fun K hK => ?_
  have hwh := (HM.out.whole _ hsel.mem).2
  exact wp_store_row ty x y ho g vs.toArray hx hv t cs.toArray hwh (by unfold Size at hty; simpa [hn] using hty) (by simp [hl, hn]) (by simpa using h1) (hK _ _ (h _ (HM.out.of_row hs)))
theorem own_old {ty : TypeId} {x : Operand} {p : Addr} {v : Value} (HM : Hid (Own W0 w l)) (ho : o.op = .load ty x) (hx : a.eval x = .pointer (some p)) (hty : One P ty)
    (hc : W0.cell? p = some v) (hp : p.spot = none) (hw : Region.wanted o (yielded ops a.tmps) = true) (h : wpList P ops Q rest (a.put o.dst v) w) : wpList P ops Q (o :: rest) a w := by
  refine wpList_wanted hw fun K hK => ?_
  have hc' : w.cell? p = some v := (HM.out.below.cell (block_lt_of_cell hc)).trans hc
  obtain ⟨g, off, s⟩ := p
  cases hp
  unfold Oper.wp execOp
  simp only [ho, hx, Instr.loadAt, Instr.sureAddr, Sem.run_bind, Sem.run_pure, Result.andThen_ok, run_loadVar_one w g off ty v hc' hty]
  exact hK _ _ h
theorem own_results {fn : Func} {p : Tmp} {ty t : TypeId} {g : Nat} {cs : List Value} (HM : Hid (Own W0 w l)) (h : fn.results = #[.cell p ty]) (tmps : Array Value) (hp : tmps.getD p undef = .pointer (some ⟨g, 0, none⟩)) (hs : Sel l g t cs)
    (hty : Agg P ty cs.length) : (results fn tmps).run P w = .ok (.agg cs.toArray) w := by
  obtain ⟨⟨d, hu, hr⟩, hsz⟩ := hty
  exact results_cell_row h tmps w g t cs.toArray (0, 0) d hp (HM.out.at_ hs) hu (by cases d <;> first | rfl | cases hr) (by simpa using hsz)
end
end Go.Proofs.YtljjgakfnajifaaGreatDoor
namespace Go.Proofs.YtljjgakfnajifaaGreatDoor
open Go.RowKit
section
variable {P : Program} {W0 w : World} {l : List (Nat × TypeId × List Value)} {ops : Array Oper} {rest : List Oper} {o : Oper} {a : Act} {Q : Act → Prop} {v : Value}
theorem own_region {id : Nat} {R : Exit → Act → World → Prop} {os : List Oper} (HM : Hid (Own W0 w l)) (hm : P.follows .mixedOrders = true) (hB : Region.lexB .any os.toArray = true)
    (h : wpQuiet P os.toArray (fun w' => Own W0 w' l) (fun a' => ∀ w', Hid (Own W0 w' l) → R .normal a' w') os a) : (Code.region id os.toArray true).wp P R a w :=
  wp_region_quiet (C := fun w' => Own W0 w' l) hm hB HM.out.drew h
theorem wpList_of_quiet {C : World → Prop} {ops : Array Oper} {R : Exit → Act → World → Prop} : ∀ (os : List Oper) (a : Act) (w : World), C w → wpQuiet P ops C (fun a' => ∀ w', C w' → R .normal a' w') os a → wpList P ops R os a w
  | [], _, w, hC, h => h w hC
  | _ :: os, a, w, hC, h => by
    refine wpList_step fun K hK => ?_
    unfold wpQuiet at h
    split
    · rename_i hw
      rw [if_pos hw] at h
      exact Oper.wp_of_quiet hC (fun a' w' hC' hq => hK a' w' (wpList_of_quiet os a' w' hC' hq)) h
    · rename_i hw
      rw [if_neg hw] at h
      exact hK _ _ (wpList_of_quiet os _ w hC h)
theorem own_inorder {id : Nat} {R : Exit → Act → World → Prop} {os : List Oper} (HM : Hid (Own W0 w l))
    (h : wpQuiet P os.toArray (fun w' => Own W0 w' l) (fun a' => ∀ w', Hid (Own W0 w' l) → R .normal a' w') os a) : (Code.region id os.toArray false).wp P R a w :=
  wp_region_lit (wpList_of_quiet (C := fun w' => Own W0 w' l) os a w HM.out h)
theorem own_q {C : World → Prop} (hw : Region.wanted o (yielded ops a.tmps) = true) (hx : ∀ w, C w → (execOp a.eval o).run P w = .ok (.value v) w) (h : wpQuiet P ops C Q rest (a.put o.dst v)) : wpQuiet P ops C Q (o :: rest) a :=
  BigFrame.wpQuiet_want hw fun K hK => ⟨v, fun w hC => by unfold Oper.quietAt; rw [hx w hC]; exact ⟨rfl, rfl⟩, hK _ h⟩
theorem own_q_skip {C : World → Prop} (hw : Region.wanted o (yielded ops a.tmps) = false) (h : wpQuiet P ops C Q rest (a.put o.dst undef)) : wpQuiet P ops C Q (o :: rest) a := BigFrame.wpQuiet_skip hw h
theorem own_q_call {f : FuncId} {args args' : Array Value} (hw : Region.wanted o (yielded ops a.tmps) = true) (hx : ∀ w, (execOp a.eval o).run P w = .ok (.enter f args') w) (ha : args' = args)
    (hc : ∀ w', Hid (Own W0 w' l) → Calls P f args w' fun e w'' => e = .returned v ∧ Below w'.heap.size w' w'') (h : wpQuiet P ops (fun w' => Own W0 w' l) Q rest (a.put o.dst v)) : wpQuiet P ops (fun w' => Own W0 w' l) Q (o :: rest) a :=
  BigFrame.wpQuiet_want hw fun K hK => ⟨v, fun w hC => by
    unfold Oper.quietAt; rw [hx w, ha]
    exact ⟨rfl, (hc w hC).mono fun _ _ ⟨he, hb⟩ => ⟨he, hC.call hb⟩⟩, hK _ h⟩
theorem own_q_load {ty t : TypeId} {x : Operand} {g off n : Nat} {cs r vs : List Value} (ho : o.op = .load ty x) (hx : a.eval x = .pointer (some ⟨g, off, none⟩)) (hty : Agg P ty n)
    (hs : Sel l g t cs) (hd : Drop cs off r) (ht : Take r n vs) (hw : Region.wanted o (yielded ops a.tmps) = true)
    (h : wpQuiet P ops (fun w' => Own W0 w' l) Q rest (a.put o.dst (.agg vs.toArray))) : wpQuiet P ops (fun w' => Own W0 w' l) Q (o :: rest) a := by
  obtain ⟨⟨d, hu, hr⟩, hsz⟩ := hty
  refine own_q hw (fun w hC => ?_) h
  unfold execOp
  have hrun := run_loadVar_mid (P := P) w g off ty vs d (fun j v hv => ?_) hu hr (by rw [ht.len]; exact hsz)
  · simp only [ho, hx, Instr.loadAt, Instr.sureAddr, Sem.run_bind, Sem.run_pure, Result.andThen_ok, hrun]
  · rw [(hC.at_ hs).at_]
    have e1 := hd.eq
    have e2 := ht.eq
    subst e1 e2
    rw [List.getElem?_take] at hv
    split at hv
    · rwa [List.getElem?_drop] at hv
    · cases hv
theorem own_q_row {ty t : TypeId} {x : Operand} {g n : Nat} {cs : List Value} (ho : o.op = .load ty x) (hx : a.eval x = .pointer (some ⟨g, 0, none⟩)) (hty : Agg P ty n)
    (hs : Sel l g t cs) (hw : Region.wanted o (yielded ops a.tmps) = true) (hl : cs.length = n)
    (h : wpQuiet P ops (fun w' => Own W0 w' l) Q rest (a.put o.dst (.agg cs.toArray))) : wpQuiet P ops (fun w' => Own W0 w' l) Q (o :: rest) a := by
  obtain ⟨⟨d, hu, hr⟩, hsz⟩ := hty
  refine own_q hw (fun w hC => ?_) h
  unfold execOp
  have hrun := run_loadVar_mid (P := P) w g 0 ty cs d (fun j v hv => by rw [(hC.at_ hs).at_, Nat.zero_add]; exact hv) hu hr (by rw [hl]; exact hsz)
  simp only [ho, hx, Instr.loadAt, Instr.sureAddr, Sem.run_bind, Sem.run_pure, Result.andThen_ok, hrun]
theorem own_q_cell {ty t : TypeId} {x : Operand} {g off : Nat} {cs r : List Value} (ho : o.op = .load ty x) (hx : a.eval x = .pointer (some ⟨g, off, none⟩)) (hty : One P ty)
    (hs : Sel l g t cs) (hd : Drop cs off (v :: r)) (hw : Region.wanted o (yielded ops a.tmps) = true)
    (h : wpQuiet P ops (fun w' => Own W0 w' l) Q rest (a.put o.dst v)) : wpQuiet P ops (fun w' => Own W0 w' l) Q (o :: rest) a := by
  refine own_q hw (fun w hC => ?_) h
  have hc : w.cell? ⟨g, off, none⟩ = some v := by
    rw [(hC.at_ hs).at_]
    have e1 := hd.eq
    have : (cs.drop off)[0]? = some v := by rw [e1]; rfl
    simpa using this
  unfold execOp
  simp only [ho, hx, Instr.loadAt, Instr.sureAddr, Sem.run_bind, Sem.run_pure, Result.andThen_ok, run_loadVar_one w g off ty v hc hty]
end
section
variable {P : Program} {W0 w : World} {l : List (Nat × TypeId × List Value)} {a : Act} {C : World → Prop} {K : Act → Prop} {dst : Option Tmp} {op : Op} {ty0 : TypeId} {pos : String} {aft : Array Edge} {gd : Option (Nat × Bool)} {u : Value}
theorem quiet_as (hx : ∀ w, C w → (execOp a.eval ⟨dst, op, ty0, pos, aft, gd⟩).run P w = .ok (.value u) w) (h : Oper.quiet P ⟨dst, .move (.const u), ty0, pos, aft, gd⟩ a C K) : Oper.quiet P ⟨dst, op, ty0, pos, aft, gd⟩ a C K := by
  obtain ⟨v, hv, hk⟩ := h
  refine ⟨v, fun w hC => ?_, hk⟩
  have h1 := hv w hC
  unfold Oper.quietAt at h1 ⊢
  rw [hx w hC]
  rw [BigFrame.run_move (.const u) rfl] at h1
  exact h1
theorem quiet_load {ty t : TypeId} {x : Operand} {g off n : Nat} {cs r vs : List Value} (hx : a.eval x = .pointer (some ⟨g, off, none⟩)) (hty : Agg P ty n)
    (hs : Sel l g t cs) (hd : Drop cs off r) (ht : Take r n vs)
    (h : Oper.quiet P ⟨dst, .move (.const (.agg vs.toArray)), ty0, pos, aft, gd⟩ a (fun w' => Own W0 w' l) K) : Oper.quiet P ⟨dst, .load ty x, ty0, pos, aft, gd⟩ a (fun w' => Own W0 w' l) K := by
  obtain ⟨⟨d, hu, hr⟩, hsz⟩ := hty
  refine quiet_as (fun w hC => ?_) h
  unfold execOp
  have hrun := run_loadVar_mid (P := P) w g off ty vs d (fun j v hv => ?_) hu hr (by rw [ht.len]; exact hsz)
  · simp only [hx, Instr.loadAt, Instr.sureAddr, Sem.run_bind, Sem.run_pure, Result.andThen_ok, hrun]
  · rw [(hC.at_ hs).at_]
    have e1 := hd.eq
    have e2 := ht.eq
    subst e1 e2
    rw [List.getElem?_take] at hv
    split at hv
    · rwa [List.getElem?_drop] at hv
    · cases hv
theorem quiet_row {ty t : TypeId} {x : Operand} {g n : Nat} {cs : List Value} (hx : a.eval x = .pointer (some ⟨g, 0, none⟩)) (hty : Agg P ty n)
    (hs : Sel l g t cs) (hl : cs.length = n)
    (h : Oper.quiet P ⟨dst, .move (.const (.agg cs.toArray)), ty0, pos, aft, gd⟩ a (fun w' => Own W0 w' l) K) : Oper.quiet P ⟨dst, .load ty x, ty0, pos, aft, gd⟩ a (fun w' => Own W0 w' l) K := by
  obtain ⟨⟨d, hu, hr⟩, hsz⟩ := hty
  refine quiet_as (fun w hC => ?_) h
  unfold execOp
  have hrun := run_loadVar_mid (P := P) w g 0 ty cs d (fun j v hv => by rw [(hC.at_ hs).at_, Nat.zero_add]; exact hv) hu hr (by rw [hl]; exact hsz)
  simp only [hx, Instr.loadAt, Instr.sureAddr, Sem.run_bind, Sem.run_pure, Result.andThen_ok, hrun]
theorem quiet_cell {ty t : TypeId} {x : Operand} {g off : Nat} {cs r : List Value} (hx : a.eval x = .pointer (some ⟨g, off, none⟩)) (hty : One P ty)
    (hs : Sel l g t cs) (hd : Drop cs off (u :: r))
    (h : Oper.quiet P ⟨dst, .move (.const u), ty0, pos, aft, gd⟩ a (fun w' => Own W0 w' l) K) : Oper.quiet P ⟨dst, .load ty x, ty0, pos, aft, gd⟩ a (fun w' => Own W0 w' l) K := by
  refine quiet_as (fun w hC => ?_) h
  have hc : w.cell? ⟨g, off, none⟩ = some u := by
    rw [(hC.at_ hs).at_]
    have e1 := hd.eq
    have : (cs.drop off)[0]? = some u := by rw [e1]; rfl
    simpa using this
  unfold execOp
  simp only [hx, Instr.loadAt, Instr.sureAddr, Sem.run_bind, Sem.run_pure, Result.andThen_ok, run_loadVar_one w g off ty u hc hty]
theorem quiet_old {ty : TypeId} {x : Operand} {p : Addr} (hx : a.eval x = .pointer (some p)) (hty : One P ty) (hc : W0.cell? p = some u) (hp : p.spot = none)
    (h : Oper.quiet P ⟨dst, .move (.const u), ty0, pos, aft, gd⟩ a (fun w' => Own W0 w' l) K) : Oper.quiet P ⟨dst, .load ty x, ty0, pos, aft, gd⟩ a (fun w' => Own W0 w' l) K := by
  refine quiet_as (fun w hC => ?_) h
  have hc' : w.cell? p = some u := (hC.below.cell (block_lt_of_cell hc)).trans hc
  obtain ⟨g, off, s⟩ := p
  cases hp
  unfold execOp
  simp only [hx, Instr.loadAt, Instr.sureAddr, Sem.run_bind, Sem.run_pure, Result.andThen_ok, run_loadVar_one w g off ty u hc' hty]
theorem quiet_call {cl : Call} {f : FuncId} {args args' : Array Value} (hx : ∀ w, (execOp a.eval ⟨dst, .call cl, ty0, pos, aft, gd⟩).run P w = .ok (.enter f args') w) (ha : args' = args)
    (hc : ∀ w', Hid (Own W0 w' l) → Calls P f args w' fun e w'' => e = .returned u ∧ Below w'.heap.size w' w'')
    (h : Oper.quiet P ⟨dst, .move (.const u), ty0, pos, aft, gd⟩ a (fun w' => Own W0 w' l) K) : Oper.quiet P ⟨dst, .call cl, ty0, pos, aft, gd⟩ a (fun w' => Own W0 w' l) K := by
  obtain ⟨v, hv, hk⟩ := h
  refine ⟨v, fun w hC => ?_, hk⟩
  have h1 := hv w hC
  unfold Oper.quietAt at h1 ⊢
  rw [BigFrame.run_move (.const u) rfl] at h1
  obtain ⟨-, rfl⟩ := h1
  rw [hx w, ha]
  exact ⟨rfl, (hc w hC).mono fun _ _ ⟨he, hb⟩ => ⟨he, hC.call hb⟩⟩
end
end Go.Proofs.YtljjgakfnajifaaGreatDoor
namespace Go.Proofs.YtljjgakfnajifaaGreatDoor
open Go.RowKit
section
variable {P : Program} {W0 w w' : World} {l l' : List (Nat × TypeId × List Value)} {ops : Array Oper} {rest : List Oper} {o : Oper} {a : Act} {Q : Exit → Act → World → Prop}
theorem own_get {ty t : TypeId} {x : Operand} {g off : Nat} {cs : List Value} {v : Value} (HM : Hid (Own W0 w l)) (ho : o.op = .load ty x) (hx : a.eval x = .pointer (some ⟨g, off, none⟩)) (hty : One P ty)
    (hs : Sel l g t cs) (hd : cs[off]? = some v) (hw : Region.wanted o (yielded ops a.tmps) = true)
    (h : wpList P ops Q rest (a.put o.dst v) w) : wpList P ops Q (o :: rest) a w := by
  refine wpList_wanted hw fun K hK => ?_
  have hc : w.cell? ⟨g, off, none⟩ = some v := by rw [(HM.out.at_ hs).at_]; exact hd
  unfold Oper.wp execOp
  simp only [ho, hx, Instr.loadAt, Instr.sureAddr, Sem.run_bind, Sem.run_pure, Result.andThen_ok, run_loadVar_one w g off ty v hc hty]
  exact hK _ _ h
end
section
variable {P : Program} {W0 w : World} {l : List (Nat × TypeId × List Value)} {a : Act} {K : Act → Prop} {dst : Option Tmp} {ty0 : TypeId} {pos : String} {aft : Array Edge} {gd : Option (Nat × Bool)} {u : Value}
theorem quiet_get {ty t : TypeId} {x : Operand} {g off : Nat} {cs : List Value} (hx : a.eval x = .pointer (some ⟨g, off, none⟩)) (hty : One P ty)
    (hs : Sel l g t cs) (hd : cs[off]? = some u)
    (h : Oper.quiet P ⟨dst, .move (.const u), ty0, pos, aft, gd⟩ a (fun w' => Own W0 w' l) K) : Oper.quiet P ⟨dst, .load ty x, ty0, pos, aft, gd⟩ a (fun w' => Own W0 w' l) K := by
  refine quiet_as (fun w hC => ?_) h
  have hc : w.cell? ⟨g, off, none⟩ = some u := by rw [(hC.at_ hs).at_]; exact hd
  unfold execOp
  simp only [hx, Instr.loadAt, Instr.sureAddr, Sem.run_bind, Sem.run_pure, Result.andThen_ok, run_loadVar_one w g off ty u hc hty]
end
end Go.Proofs.YtljjgakfnajifaaGreatDoor
namespace Go.Proofs.YtljjgakfnajifaaGreatDoor
open Go.RowKit
section
variable {W0 w w' : World} {l l' L R R' : List (Nat × TypeId × List Value)} {t : TypeId} {v v' : Value} {xs us : List Value} {n size : Nat}
theorem Own.perm (h : Own W0 w l) (hp : l.Perm l') : Own W0 w l' :=
  ⟨h.below, fun e he => h.whole e (hp.mem_iff.2 he), (List.Perm.pairwise_iff (fun h => Ne.symm h) hp).1 h.apart⟩
theorem Own.tail {l1 l2 : List (Nat × TypeId × List Value)} (h : Own W0 w (l1 ++ l2)) : Own W0 w l2 :=
  ⟨h.below, fun e he => h.whole e (by simp [he]), (List.pairwise_append.1 h.apart).2.1⟩
theorem Own.init {l1 l2 : List (Nat × TypeId × List Value)} (h : Own W0 w (l1 ++ l2)) : Own W0 w l1 :=
  ⟨h.below, fun e he => h.whole e (by simp [he]), (List.pairwise_append.1 h.apart).1⟩
theorem Sel.app {g : Nat} {cs : List Value} (h : Sel l g t cs) (X : List (Nat × TypeId × List Value)) : Sel (l ++ X) g t cs := by
  induction h with
  | z => exact .z
  | s _ ih => exact .s ih
theorem Put.app {g : Nat} {cs cs' : List Value} (h : Put l g t cs cs' l') (X : List (Nat × TypeId × List Value)) : Put (l ++ X) g t cs cs' (l' ++ X) := by
  induction h with
  | z => exact .z
  | s _ ih => exact .s ih
def RowOf (t : TypeId) (size : Nat) (R : List (Nat × TypeId × List Value)) (v : Value) (n : Nat) (xs : List Value) : Prop :=
  xs.length = n * size ∧ ((R = [] ∧ v = .slice none 0 0 ∧ n = 0) ∨
  ∃ g cap cur, R = [(g, t, cur)] ∧ v = .slice (some ⟨g, 0, none⟩) n cap ∧ n ≤ cap ∧ cap ≤ maxLen ∧ cur.length = cap * size ∧ cur.take (n * size) = xs)
theorem RowOf.nil (t : TypeId) (size : Nat) : RowOf t size [] (.slice none 0 0) 0 [] := ⟨by simp, .inl ⟨rfl, rfl, rfl⟩⟩
theorem RowOf.owns (h : RowOf t size R v n xs) {B : Nat} (hR : ∀ e ∈ R, B ≤ e.1 ∧ Whole w e.1 e.2.1 e.2.2) : w.ownsRow B t size v n xs := by
  obtain ⟨hl, ⟨-, rfl, rfl⟩ | ⟨g, cap, cur, rfl, rfl, h1, h2, h3, h4⟩⟩ := h
  · exact ⟨hl, .inl ⟨rfl, rfl⟩⟩
  · obtain ⟨hb, hw⟩ := hR (g, t, cur) (by simp)
    exact ⟨hl, .inr ⟨g, cap, cur.toArray, rfl, hb, hw, h1, h2, by simpa using h3, by simpa using h4⟩⟩
theorem Own.grow {g cap : Nat} (h : Own W0 w (L ++ R)) (hR : RowOf t size R v n xs) (hg : w.grownBy w' v.ownBlock)
    (hw' : w'.ownsRow W0.heap.size t size (.slice (some ⟨g, 0, none⟩) (n + 1) cap) (n + 1) (xs ++ us)) (hlie : v.ownBlock = some g ∨ g = w.heap.size) :
    ∃ R', RowOf t size R' (.slice (some ⟨g, 0, none⟩) (n + 1) cap) (n + 1) (xs ++ us) ∧ Own W0 w' (L ++ R') := by
  have hrow : ∀ k, v.ownBlock = some k → ∃ cur, R = [(k, t, cur)] := by
    intro k hk
    obtain ⟨-, ⟨-, rfl, -⟩ | ⟨g, cap, cur, rfl, rfl, -⟩⟩ := hR
    · cases hk
    · cases hk; exact ⟨cur, rfl⟩
  have hlo : ∀ k, v.ownBlock = some k → W0.heap.size ≤ k := by
    intro k hk
    obtain ⟨cur, hm⟩ := hrow k hk
    exact (h.whole (k, t, cur) (by simp [hm])).1
  have hap := List.pairwise_append.1 h.apart
  have hLw : ∀ e ∈ L, W0.heap.size ≤ e.1 ∧ Whole w' e.1 e.2.1 e.2.2 ∧ e.1 ≠ g := by
    intro e he
    have hx := h.whole e (by simp [he])
    have hne : some e.1 ≠ v.ownBlock := by
      intro hk
      obtain ⟨cur, hm⟩ := hrow e.1 hk.symm
      exact hap.2.2 e he (e.1, t, cur) (by simp [hm]) rfl
    refine ⟨hx.1, hx.2.grown hg hne, ?_⟩
    rcases hlie with hlie | rfl
    · rw [hlie] at hne
      exact fun h => hne (by rw [h])
    · have := hx.2.inside
      omega
  obtain ⟨hl', ⟨h0, _⟩ | ⟨g', cap', cur, hv, hb, hw, h1, h2, h3, h4⟩⟩ := hw'
  · cases h0
  · injection hv with hv1 _ hv2
    injection hv1 with hv1
    injection hv1 with hv1
    subst hv1 hv2
    refine ⟨[(g, t, cur.toList)], ⟨hl', .inr ⟨g, cap, cur.toList, rfl, rfl, h1, h2, by simpa using h3, h4⟩⟩, h.below.trans ((Below.refl _ w).grown hg h.below.size hlo), ?_, ?_⟩
    · intro e he
      rcases List.mem_append.1 he with he | he
      · exact ⟨(hLw e he).1, (hLw e he).2.1⟩
      · obtain rfl := List.mem_singleton.1 he
        exact ⟨hb, hw⟩
    · rw [List.pairwise_append]
      refine ⟨hap.1, List.pairwise_singleton _ _, ?_⟩
      intro a ha b hb'
      obtain rfl := List.mem_singleton.1 hb'
      exact (hLw a ha).2.2
end
theorem own_grow {P : Program} {W0 w : World} {l : List (Nat × TypeId × List Value)} {ops : Array Oper} {rest : List Oper} {o : Oper} {a : Act} {Q : Exit → Act → World → Prop} {g3 n size bytes : Nat} {t3 t e : TypeId} {L R : List (Nat × TypeId × List Value)} {v z : Value} {xs us : List Value} {s y : Operand} {i : TypeInfo}
    (HM : Hid (Own W0 w l)) (hp : l.Perm ((g3, t3, us) :: (L ++ R))) (HR : RowOf e size R v n xs) (hgd : o.guard = none)
    (ho : o.op = .call { callee := .builtin .append, args := #[s, y], argTypes := #[t, t] }) (hs : a.eval s = v) (hy : a.eval y = .slice (some ⟨g3, 0, none⟩) 1 1) (hu : us.all (·.oneCell') = true) (hl : us.length = size) (hn : n ≤ 1000000) (hb : bytes ≤ 1000)
    (ht : P.underlying t = some (.slice e)) (hi : P.info? e = some i) (hz : i.zero = some z) (hsize : i.size = size) (hby : i.bytes = bytes) (hzs : z.cells.size = size) (hsz : 0 < size)
    (h : ∀ gg cap w' R', RowOf e size R' (.slice (some ⟨gg, 0, none⟩) (n + 1) cap) (n + 1) (xs ++ us) → Hid (Own W0 w' (L ++ R')) → wpList P ops Q rest (a.put o.dst (.slice (some ⟨gg, 0, none⟩) (n + 1) cap)) w') : wpList P ops Q (o :: rest) a w := by
  have hO : Own W0 w ([(g3, t3, us)] ++ (L ++ R)) := HM.out.perm hp
  have hrow := HR.owns (w := w) (B := W0.heap.size) (fun e he => hO.whole e (by simp [he]))
  have hw3 := hO.whole (g3, t3, us) (by simp)
  refine wpList_append_lies w hgd s y t ho W0.heap.size e i z size bytes ht hi hz hsize hby hzs hsz v n xs hs hrow ⟨g3, 0, none⟩ 1 1 us hy (by omega) ?_ (by simpa using hu) (by omega) (by unfold maxLen; omega) ?_ hO.below.size w.heap.size rfl ?_
  · intro j x hj
    have := hw3.2.at_ j
    rw [show (⟨g3, 0, none⟩ : Addr).add j = ⟨g3, j, none⟩ by unfold Addr.add; split <;> simp_all, this, ← hj]
  · have : (n + 1) * bytes ≤ 1000001 * 1000 := Nat.mul_le_mul (by omega) hb
    omega
  · intro g cap w' h1 h2 h3 _
    obtain ⟨R', hR', hO'⟩ := hO.tail.grow HR h2 h1 h3
    exact h _ _ _ R' hR' hO'
end Go.Proofs.YtljjgakfnajifaaGreatDoor
namespace Go.Proofs.YtljjgakfnajifaaGreatDoor
open Go.RowKit
def allB : Nat → (Nat → Bool) → Bool
  | 0, _ => true
  | n + 1, p => (p n).and (allB n p)
theorem allB_at {n : Nat} {p : Nat → Bool} (h : allB n p = true) (k : Nat) (hk : k < n) : p k = true := by
  induction n with
  | zero => omega
  | succ n ih =>
    simp only [allB, Bool.and_eq_true] at h
    by_cases e : k = n
    · subst e; exact h.1
    · exact ih h.2 (by omega)
theorem allB_at2 {n m : Nat} {p : Nat → Nat → Bool} (h : allB n (fun a => allB m (p a)) = true) (a b : Nat) (ha : a < n) (hb : b < m) : p a b = true := allB_at (allB_at h a ha) b hb
def nByte (s z y h x p n c : Bool) : Nat :=
  Nat.add (cond s 128 0) (Nat.add (cond z 64 0) (Nat.add (cond y 32 0) (Nat.add (cond h 16 0) (Nat.add (cond x 8 0) (Nat.add (cond p 4 0) (Nat.add (cond n 2 0) (cond c 1 0)))))))
def nS (v : Nat) : Bool := Nat.ble 128 v
def nZ (v : Nat) : Bool := Nat.beq v 0
def nBit (k v : Nat) : Bool := Nat.beq (Nat.mod (Nat.div v k) 2) 1
def nOnes : Nat → Nat → Nat
  | 0, _ => 0
  | k + 1, v => Nat.add (Nat.mod v 2) (nOnes k (Nat.div v 2))
def nPar (v : Nat) : Bool := Nat.beq (Nat.mod (nOnes 8 v) 2) 0
def nShape (v : Nat) : Nat := nByte (nS v) (nZ v) (nBit 32 v) false (nBit 8 v) false false false
def nOver (t : Nat) : Bool := not (and (Nat.ble 128 t) (Nat.ble t 383))
def nHalf (a : Nat) : Nat := Nat.mod (Nat.add a 128) 256
def nAddV (a b c : Nat) : Nat := Nat.mod (Nat.add (Nat.add a b) c) 256
def nAddFof (v a b c : Nat) : Nat :=
  nByte (nS v) (nZ v) (nBit 32 v) (Nat.ble 16 (Nat.add (Nat.add (Nat.mod a 16) (Nat.mod b 16)) c)) (nBit 8 v) (nOver (Nat.add (Nat.add (nHalf a) (nHalf b)) c)) false (Nat.ble 256 (Nat.add (Nat.add a b) c))
def nAddF (a b c : Nat) : Nat := nAddFof (nAddV a b c) a b c
def nSubV (a b c : Nat) : Nat := Nat.mod (Nat.sub (Nat.add a 512) (Nat.add b c)) 256
def nSubFof (v a b c : Nat) : Nat :=
  nByte (nS v) (nZ v) (nBit 32 v) (Nat.ble (Nat.add (Nat.mod a 16) 1) (Nat.add (Nat.mod b 16) c)) (nBit 8 v) (nOver (Nat.sub (Nat.add (nHalf a) 256) (Nat.add (nHalf b) c))) true (Nat.ble (Nat.add a 1) (Nat.add b c))
def nSubF (a b c : Nat) : Nat := nSubFof (nSubV a b c) a b c
def nBitsF (v : Nat) (h : Bool) : Nat := nByte (nS v) (nZ v) (nBit 32 v) h (nBit 8 v) (nPar v) false false
def nCmp (a b : Nat) : Nat := Nat.lor (Nat.land (nSubF a b 0) 215) (Nat.land b 40)
def nKeep (f g : Nat) : Nat := Nat.lor (Nat.land f 254) (Nat.land g 1)
def nLow (a f : Nat) : Bool := or (nBit 16 f) (Nat.ble 10 (Nat.mod a 16))
def nHigh (a f : Nat) : Bool := or (nBit 1 f) (Nat.ble 154 a)
def nDaaV (a f : Nat) : Nat :=
  cond (nBit 2 f) (Nat.mod (Nat.sub (Nat.add a 512) (Nat.add (cond (nLow a f) 6 0) (cond (nHigh a f) 96 0))) 256) (Nat.mod (Nat.add (Nat.add a (cond (nLow a f) 6 0)) (cond (nHigh a f) 96 0)) 256)
def nDaaFof (v a f : Nat) : Nat :=
  nByte (nS v) (nZ v) (nBit 32 v) (xor (nBit 16 a) (nBit 16 v)) (nBit 8 v) (nPar v) (nBit 2 f) (nHigh a f)
def nDaaF (a f : Nat) : Nat := nDaaFof (nDaaV a f) a f
def nFlipV (k a : Nat) : Nat := cond (Nat.beq k 0) (Nat.sub 255 a) a
def nFlipF0 (a f : Nat) : Nat := nByte (nBit 128 f) (nBit 64 f) (nBit 32 (Nat.sub 255 a)) true (nBit 8 (Nat.sub 255 a)) (nBit 4 f) true (nBit 1 f)
def nFlipF1 (a f : Nat) : Nat := nByte (nBit 128 f) (nBit 64 f) (nBit 32 a) false (nBit 8 a) (nBit 4 f) false true
def nFlipF2 (a f : Nat) : Nat := nByte (nBit 128 f) (nBit 64 f) (nBit 32 a) (nBit 1 f) (nBit 8 a) (nBit 4 f) false (not (nBit 1 f))
theorem nByte_lt (s z y h x p n c : Bool) : nByte s z y h x p n c < 256 := by
  cases s <;> cases z <;> cases y <;> cases h <;> cases x <;> cases p <;> cases n <;> cases c <;> decide
theorem nAddV_lt (a b c : Nat) : nAddV a b c < 256 := Nat.mod_lt _ (by omega)
theorem nAddF_lt (a b c : Nat) : nAddF a b c < 256 := nByte_lt _ _ _ _ _ _ _ _
theorem nSubV_lt (a b c : Nat) : nSubV a b c < 256 := Nat.mod_lt _ (by omega)
theorem nSubF_lt (a b c : Nat) : nSubF a b c < 256 := nByte_lt _ _ _ _ _ _ _ _
theorem nBitsF_lt (v : Nat) (h : Bool) : nBitsF v h < 256 := nByte_lt _ _ _ _ _ _ _ _
theorem and8 {a b : Nat} (h : a < 256) : a &&& b < 256 := Nat.lt_of_le_of_lt Nat.and_le_left h
theorem and8' {a b : Nat} (h : b < 256) : a &&& b < 256 := Nat.lt_of_le_of_lt Nat.and_le_right h
theorem or8 {a b : Nat} (h : a < 256) (h' : b < 256) : a ||| b < 256 := Nat.or_lt_two_pow (n := 8) h h'
theorem xor8 {a b : Nat} (h : a < 256) (h' : b < 256) : a ^^^ b < 256 := Nat.xor_lt_two_pow (n := 8) h h'
theorem nKeep_lt (f g : Nat) : nKeep f g < 256 := or8 (and8' (by omega)) (and8' (by omega))
theorem nCmp_lt (a b : Nat) : nCmp a b < 256 := or8 (and8' (by omega)) (and8' (by omega))
theorem nDaaV_lt (a f : Nat) : nDaaV a f < 256 := by unfold nDaaV; cases nBit 2 f <;> exact Nat.mod_lt _ (by omega)
theorem nDaaF_lt (a f : Nat) : nDaaF a f < 256 := nByte_lt _ _ _ _ _ _ _ _
theorem nByte_of (f : Nat) (h : f < 256) : nByte (nBit 128 f) (nBit 64 f) (nBit 32 f) (nBit 16 f) (nBit 8 f) (nBit 4 f) (nBit 2 f) (nBit 1 f) = f := by
  have := allB_at (show allB 256 (fun f => Nat.beq (nByte (nBit 128 f) (nBit 64 f) (nBit 32 f) (nBit 16 f) (nBit 8 f) (nBit 4 f) (nBit 2 f) (nBit 1 f)) f) = true by decide +kernel) f h
  exact Nat.eq_of_beq_eq_true this
theorem nByte_keep (f g : Nat) (hf : f < 256) (hg : g < 256) : nByte (nBit 128 f) (nBit 64 f) (nBit 32 f) (nBit 16 f) (nBit 8 f) (nBit 4 f) (nBit 2 f) (nBit 1 g) = nKeep f g := by
  have h1 := allB_at (show allB 256 (fun f => and (Nat.beq (nByte (nBit 128 f) (nBit 64 f) (nBit 32 f) (nBit 16 f) (nBit 8 f) (nBit 4 f) (nBit 2 f) false) (Nat.lor (Nat.land f 254) 0)) (Nat.beq (nByte (nBit 128 f) (nBit 64 f) (nBit 32 f) (nBit 16 f) (nBit 8 f) (nBit 4 f) (nBit 2 f) true) (Nat.lor (Nat.land f 254) 1))) = true by decide +kernel) f hf
  have h2 := allB_at (show allB 256 (fun g => Nat.beq (Nat.land g 1) (cond (nBit 1 g) 1 0)) = true by decide +kernel) g hg
  have e := Nat.eq_of_beq_eq_true h2
  rw [Bool.and_eq_true] at h1
  unfold nKeep
  rw [e]
  cases nBit 1 g
  · exact Nat.eq_of_beq_eq_true h1.1
  · exact Nat.eq_of_beq_eq_true h1.2
theorem nByte_stray (f b : Nat) (hf : f < 256) (hb : b < 256) : nByte (nBit 128 f) (nBit 64 f) (nBit 32 b) (nBit 16 f) (nBit 8 b) (nBit 4 f) (nBit 2 f) (nBit 1 f) = Nat.lor (Nat.land f 215) (Nat.land b 40) := by
  have h2 := allB_at (show allB 256 (fun g => Nat.beq (Nat.land g 40) (Nat.add (cond (nBit 32 g) 32 0) (cond (nBit 8 g) 8 0))) = true by decide +kernel) b hb
  rw [Nat.eq_of_beq_eq_true h2]
  have h1 := allB_at (show allB 256 (fun f =>
    and (and (Nat.beq (nByte (nBit 128 f) (nBit 64 f) false (nBit 16 f) false (nBit 4 f) (nBit 2 f) (nBit 1 f)) (Nat.lor (Nat.land f 215) 0))
     (Nat.beq (nByte (nBit 128 f) (nBit 64 f) false (nBit 16 f) true (nBit 4 f) (nBit 2 f) (nBit 1 f)) (Nat.lor (Nat.land f 215) 8)))
     (and (Nat.beq (nByte (nBit 128 f) (nBit 64 f) true (nBit 16 f) false (nBit 4 f) (nBit 2 f) (nBit 1 f)) (Nat.lor (Nat.land f 215) 32))
     (Nat.beq (nByte (nBit 128 f) (nBit 64 f) true (nBit 16 f) true (nBit 4 f) (nBit 2 f) (nBit 1 f)) (Nat.lor (Nat.land f 215) 40)))) = true by decide +kernel) f hf
  simp only [Bool.and_eq_true] at h1
  obtain ⟨⟨a, b'⟩, c, d⟩ := h1
  cases nBit 32 b <;> cases nBit 8 b
  · exact Nat.eq_of_beq_eq_true a
  · exact Nat.eq_of_beq_eq_true b'
  · exact Nat.eq_of_beq_eq_true c
  · exact Nat.eq_of_beq_eq_true d
theorem shape_bits (v : Nat) (h : v < 256) : Nat.lor (Nat.land v 168) (cond (Nat.beq v 0) 64 0) = nShape v := by
  exact Nat.eq_of_beq_eq_true (allB_at (show allB 256 (fun v => Nat.beq (Nat.lor (Nat.land v 168) (cond (Nat.beq v 0) 64 0)) (nShape v)) = true by decide +kernel) v h)
theorem bits_bits (v : Nat) (h : v < 256) : Nat.lor (nShape v) (cond (nPar v) 4 0) = nBitsF v false := by
  exact Nat.eq_of_beq_eq_true (allB_at (show allB 256 (fun v => Nat.beq (Nat.lor (nShape v) (cond (nPar v) 4 0)) (nBitsF v false)) = true by decide +kernel) v h)
theorem bits_half (v : Nat) (h : v < 256) : Nat.lor (nBitsF v false) 16 = nBitsF v true := by
  exact Nat.eq_of_beq_eq_true (allB_at (show allB 256 (fun v => Nat.beq (Nat.lor (nBitsF v false) 16) (nBitsF v true)) = true by decide +kernel) v h)
theorem sub_by_add (a b c : Nat) (ha : a < 256) (hb : b < 256) (hc : c ≤ 1) : nAddV a (255 - b) (1 - c) = nSubV a b c ∧ Nat.lor (Nat.xor (nAddF a (255 - b) (1 - c)) 17) 2 = nSubF a b c := by
  have hv : nAddV a (255 - b) (1 - c) = nSubV a b c := by
    show (a + (255 - b) + (1 - c)) % 256 = (a + 512 - (b + c)) % 256
    omega
  refine ⟨hv, ?_⟩
  unfold nAddF nSubF
  rw [hv]
  unfold nAddFof nSubFof
  have e1 : Nat.ble 16 (Nat.add (Nat.add (Nat.mod a 16) (Nat.mod (255 - b) 16)) (1 - c)) = not (Nat.ble (Nat.add (Nat.mod a 16) 1) (Nat.add (Nat.mod b 16) c)) := by
    rw [Bool.eq_iff_iff, Bool.not_eq_true', Bool.eq_false_iff]
    simp only [ne_eq, Nat.ble_eq]
    show 16 ≤ a % 16 + (255 - b) % 16 + (1 - c) ↔ ¬ (a % 16 + 1 ≤ b % 16 + c)
    omega
  have e2 : Nat.ble 256 (Nat.add (Nat.add a (255 - b)) (1 - c)) = not (Nat.ble (Nat.add a 1) (Nat.add b c)) := by
    rw [Bool.eq_iff_iff, Bool.not_eq_true', Bool.eq_false_iff]
    simp only [ne_eq, Nat.ble_eq]
    show 256 ≤ a + (255 - b) + (1 - c) ↔ ¬ (a + 1 ≤ b + c)
    omega
  have e3 : Nat.add (Nat.add (nHalf a) (nHalf (255 - b))) (1 - c) = Nat.sub (Nat.add (nHalf a) 256) (Nat.add (nHalf b) c) := by
    show (a + 128) % 256 + (255 - b + 128) % 256 + (1 - c) = (a + 128) % 256 + 256 - ((b + 128) % 256 + c)
    omega
  rw [e1, e2, e3]
  generalize nS (nSubV a b c) = s
  generalize nZ (nSubV a b c) = z
  generalize nBit 32 (nSubV a b c) = y
  generalize nBit 8 (nSubV a b c) = x
  generalize Nat.ble (Nat.add (Nat.mod a 16) 1) (Nat.add (Nat.mod b 16) c) = h
  generalize Nat.ble (Nat.add a 1) (Nat.add b c) = k
  generalize nOver _ = p
  cases s <;> cases z <;> cases y <;> cases h <;> cases x <;> cases p <;> cases k <;> rfl
end Go.Proofs.YtljjgakfnajifaaGreatDoor
namespace Go.Proofs.YtljjgakfnajifaaGreatDoor
open Go.RowKit
def upd (m : Nat → Nat) (a v : Nat) : Nat → Nat := fun i => if i = a then v else m i
theorem upd_lt {m : Nat → Nat} (h : ∀ i, m i < 256) (a v : Nat) (hv : v < 256) : ∀ i, upd m a v i < 256 := by
  intro i; unfold upd; split; exact hv; exact h i
def up1 (n : Nat) : Nat := (n + 1) % 65536
def dn1 (n : Nat) : Nat := (n + 65535) % 65536
theorem up1_lt (n : Nat) : up1 n < 65536 := Nat.mod_lt _ (by omega)
theorem dn1_lt (n : Nat) : dn1 n < 65536 := Nat.mod_lt _ (by omega)
structure U where
  m : Nat → Nat
  g : List Int
namespace U
def rd (u : U) (a : Nat) : U := { u with g := u.g ++ [(a : Int)] }
def wr (u : U) (a v : Nat) : U := { u with m := upd u.m a v, g := u.g ++ [1000000 + (a : Int) * 256 + (v : Int)] }
def ip (u : U) (p t : Nat) : U := { u with g := u.g ++ [100000000 + (p : Int) * 64 + (t : Int)] }
def ipV (u : U) (p _t : Nat) : Nat := (p * 7 + (u.g.length + 1) * 13) % 256
def op (u : U) (p v t : Nat) : U := { u with g := u.g ++ [1000000000 + ((p : Int) * 64 + (t : Int)) * 256 + (v : Int)] }
end U
end Go.Proofs.YtljjgakfnajifaaGreatDoor
namespace Go.Proofs.YtljjgakfnajifaaGreatDoor
open Go.RowKit
structure Rg where
  a : Nat
  f : Nat
  b : Nat
  c : Nat
  d : Nat
  e : Nat
  h : Nat
  l : Nat
  x0 : Nat
  x1 : Nat
  x2 : Nat
  x3 : Nat
  x4 : Nat
  x5 : Nat
  x6 : Nat
  x7 : Nat
  ix : Nat
  iy : Nat
  sp : Nat
  pc : Nat
  wz : Nat
  i : Nat
  r : Nat
  im : Nat
  px : Nat
  q1 : Bool
  q2 : Bool
  ht : Bool
  dl : Bool
def Rg.cells (r : Rg) : List Value := [.int .u8 (r.a : Int), .int .u8 (r.f : Int), .int .u8 (r.b : Int), .int .u8 (r.c : Int), .int .u8 (r.d : Int), .int .u8 (r.e : Int), .int .u8 (r.h : Int), .int .u8 (r.l : Int),
  .int .u8 (r.x0 : Int), .int .u8 (r.x1 : Int), .int .u8 (r.x2 : Int), .int .u8 (r.x3 : Int), .int .u8 (r.x4 : Int), .int .u8 (r.x5 : Int), .int .u8 (r.x6 : Int), .int .u8 (r.x7 : Int),
  .int .u16 (r.ix : Int), .int .u16 (r.iy : Int), .int .u16 (r.sp : Int), .int .u16 (r.pc : Int), .int .u16 (r.wz : Int), .int .u8 (r.i : Int), .int .u8 (r.r : Int), .int .u8 (r.im : Int), .int .u8 (r.px : Int),
  .bool r.q1, .bool r.q2, .bool r.ht, .bool r.dl]
abbrev Rg.v (r : Rg) : Value := .agg r.cells.toArray
theorem Rg.cells_length (r : Rg) : r.cells.length = 29 := rfl
theorem Rg.one1 (r : Rg) : r.cells.all (·.oneCell') = true := rfl
structure Rg.Fits (R : Rg) : Prop where
  a : R.a < 256
  f : R.f < 256
  b : R.b < 256
  c : R.c < 256
  d : R.d < 256
  e : R.e < 256
  h : R.h < 256
  l : R.l < 256
  x0 : R.x0 < 256
  x1 : R.x1 < 256
  x2 : R.x2 < 256
  x3 : R.x3 < 256
  x4 : R.x4 < 256
  x5 : R.x5 < 256
  x6 : R.x6 < 256
  x7 : R.x7 < 256
  ix : R.ix < 65536
  iy : R.iy < 65536
  sp : R.sp < 65536
  pc : R.pc < 65536
  wz : R.wz < 65536
  i : R.i < 256
  r : R.r < 256
  im : R.im < 256
  px : R.px < 256
def Rg.pair (r : Rg) (n : Int) : Nat :=
  if n = 0 then r.b * 256 + r.c else if n = 1 then r.d * 256 + r.e else if n = 2 then r.h * 256 + r.l else if n = 3 then r.sp else if n = 4 then r.a * 256 + r.f else if n = 5 then r.ix else if n = 6 then r.iy else 0
def Rg.setPair (r : Rg) (n : Int) (v : Nat) : Rg :=
  if n = 0 then { r with b := v / 256, c := v % 256 } else if n = 1 then { r with d := v / 256, e := v % 256 } else if n = 2 then { r with h := v / 256, l := v % 256 } else if n = 3 then { r with sp := v }
  else if n = 4 then { r with a := v / 256, f := v % 256 } else if n = 5 then { r with ix := v } else if n = 6 then { r with iy := v } else r
def rgIdx (px : Nat) : Int := if px = 221 then 5 else if px = 253 then 6 else 2
def Rg.one (r : Rg) (n : Int) (px : Nat) : Nat :=
  if n = 0 then r.b else if n = 1 then r.c else if n = 2 then r.d else if n = 3 then r.e else if n = 7 then r.a else if n = 4 then r.pair (rgIdx px) / 256 else if n = 5 then r.pair (rgIdx px) % 256 else 0
def Rg.setOne (r : Rg) (n : Int) (px v : Nat) : Rg :=
  if n = 0 then { r with b := v } else if n = 1 then { r with c := v } else if n = 2 then { r with d := v } else if n = 3 then { r with e := v } else if n = 7 then { r with a := v }
  else if n = 4 then r.setPair (rgIdx px) (v * 256 + r.pair (rgIdx px) % 256) else if n = 5 then r.setPair (rgIdx px) (r.pair (rgIdx px) / 256 * 256 + v) else r
def Rg.swap (r : Rg) (all : Bool) : Rg :=
  cond all { r with b := r.x2, c := r.x3, d := r.x4, e := r.x5, h := r.x6, l := r.x7, x2 := r.b, x3 := r.c, x4 := r.d, x5 := r.e, x6 := r.h, x7 := r.l }
    { r with a := r.x0, f := r.x1, x0 := r.a, x1 := r.f }
def Rg.tick (r : Rg) : Rg := { r with r := r.r / 128 * 128 + (r.r % 128 + 1) % 128 }
def Rg.right (r : Rg) : Bool := decide (r.im ≤ 2) && (decide (r.px = 0) || decide (r.px = 221) || decide (r.px = 253))
theorem Rg.pair_lt (r : Rg) (h : r.Fits) (n : Int) : r.pair n < 65536 := by
  have := h.a; have := h.f; have := h.b; have := h.c; have := h.d; have := h.e; have := h.h; have := h.l; have := h.ix; have := h.iy; have := h.sp
  unfold Rg.pair; (repeat' split) <;> omega
theorem rgIdx_cases (px : Nat) : rgIdx px = 5 ∨ rgIdx px = 6 ∨ rgIdx px = 2 := by unfold rgIdx; (repeat' split) <;> simp
theorem Rg.setPair_fits (r : Rg) (h : r.Fits) (n : Int) (v : Nat) (hv : v < 65536) : (r.setPair n v).Fits := by
  unfold Rg.setPair
  (repeat' split) <;> first | exact h | (constructor <;> first | exact h.a | exact h.f | exact h.b | exact h.c | exact h.d | exact h.e | exact h.h | exact h.l | exact h.x0 | exact h.x1 | exact h.x2 | exact h.x3 | exact h.x4 | exact h.x5 | exact h.x6 | exact h.x7 | exact h.ix | exact h.iy | exact h.sp | exact h.pc | exact h.wz | exact h.i | exact h.r | exact h.im | exact h.px | (show _ < _; omega) | (simp only; omega))
theorem pair_cases (n : Int) : n = 0 ∨ n = 1 ∨ n = 2 ∨ n = 3 ∨ n = 4 ∨ n = 5 ∨ n = 6 ∨ (¬ n = 0 ∧ ¬ n = 1 ∧ ¬ n = 2 ∧ ¬ n = 3 ∧ ¬ n = 4 ∧ ¬ n = 5 ∧ ¬ n = 6) := by omega
theorem one_cases (n : Int) : n = 0 ∨ n = 1 ∨ n = 2 ∨ n = 3 ∨ n = 7 ∨ n = 4 ∨ n = 5 ∨ (¬ n = 0 ∧ ¬ n = 1 ∧ ¬ n = 2 ∧ ¬ n = 3 ∧ ¬ n = 7 ∧ ¬ n = 4 ∧ ¬ n = 5) := by omega
theorem Rg.pair_no (r : Rg) (n : Int) (h : ¬ n = 0 ∧ ¬ n = 1 ∧ ¬ n = 2 ∧ ¬ n = 3 ∧ ¬ n = 4 ∧ ¬ n = 5 ∧ ¬ n = 6) : r.pair n = 0 := by
  obtain ⟨h0, h1, h2, h3, h4, h5, h6⟩ := h
  simp [Rg.pair, h0, h1, h2, h3, h4, h5, h6]
theorem Rg.setPair_no (r : Rg) (n : Int) (v : Nat) (h : ¬ n = 0 ∧ ¬ n = 1 ∧ ¬ n = 2 ∧ ¬ n = 3 ∧ ¬ n = 4 ∧ ¬ n = 5 ∧ ¬ n = 6) : r.setPair n v = r := by
  obtain ⟨h0, h1, h2, h3, h4, h5, h6⟩ := h
  simp [Rg.setPair, h0, h1, h2, h3, h4, h5, h6]
theorem Rg.one_no (r : Rg) (n : Int) (px : Nat) (h : ¬ n = 0 ∧ ¬ n = 1 ∧ ¬ n = 2 ∧ ¬ n = 3 ∧ ¬ n = 7 ∧ ¬ n = 4 ∧ ¬ n = 5) : r.one n px = 0 := by
  obtain ⟨h0, h1, h2, h3, h7, h4, h5⟩ := h
  simp [Rg.one, h0, h1, h2, h3, h7, h4, h5]
theorem Rg.setOne_no (r : Rg) (n : Int) (px v : Nat) (h : ¬ n = 0 ∧ ¬ n = 1 ∧ ¬ n = 2 ∧ ¬ n = 3 ∧ ¬ n = 7 ∧ ¬ n = 4 ∧ ¬ n = 5) : r.setOne n px v = r := by
  obtain ⟨h0, h1, h2, h3, h7, h4, h5⟩ := h
  simp [Rg.setOne, h0, h1, h2, h3, h7, h4, h5]
theorem Rg.one_lt (r : Rg) (h : r.Fits) (n : Int) (px : Nat) : r.one n px < 256 := by
  have := h.a; have := h.b; have := h.c; have := h.d; have := h.e
  have := r.pair_lt h (rgIdx px)
  unfold Rg.one; (repeat' split) <;> omega
theorem Rg.setOne_fits (r : Rg) (h : r.Fits) (n : Int) (px v : Nat) (hv : v < 256) : (r.setOne n px v).Fits := by
  have := r.pair_lt h (rgIdx px)
  unfold Rg.setOne
  (repeat' split) <;> first | exact h | exact r.setPair_fits h _ _ (by omega) | (constructor <;> first | exact h.a | exact h.f | exact h.b | exact h.c | exact h.d | exact h.e | exact h.h | exact h.l | exact h.x0 | exact h.x1 | exact h.x2 | exact h.x3 | exact h.x4 | exact h.x5 | exact h.x6 | exact h.x7 | exact h.ix | exact h.iy | exact h.sp | exact h.pc | exact h.wz | exact h.i | exact h.r | exact h.im | exact h.px | exact hv)
def Rg.alt (r : Rg) : List Value := [.int .u8 (r.x0 : Int), .int .u8 (r.x1 : Int), .int .u8 (r.x2 : Int), .int .u8 (r.x3 : Int), .int .u8 (r.x4 : Int), .int .u8 (r.x5 : Int), .int .u8 (r.x6 : Int), .int .u8 (r.x7 : Int)]
theorem Rg.setPair_keeps (r : Rg) (n : Int) (v : Nat) (h : n = 5 ∨ n = 6 ∨ n = 2) : (r.setPair n v).sp = r.sp ∧ (r.setPair n v).pc = r.pc ∧ (r.setPair n v).alt = r.alt ∧ (r.setPair n v).f = r.f := by
  rcases h with rfl | rfl | rfl <;> exact ⟨rfl, rfl, rfl, rfl⟩
theorem Rg.setOne_keeps (r : Rg) (n : Int) (px v : Nat) : (r.setOne n px v).sp = r.sp ∧ (r.setOne n px v).pc = r.pc ∧ (r.setOne n px v).alt = r.alt ∧ (r.setOne n px v).f = r.f := by
  unfold Rg.setOne
  (repeat' split) <;> first | exact r.setPair_keeps _ _ (rgIdx_cases px) | exact ⟨rfl, rfl, rfl, rfl⟩
end Go.Proofs.YtljjgakfnajifaaGreatDoor
namespace Go.Proofs.YtljjgakfnajifaaGreatDoor
open Go.RowKit
theorem oneInt : One Tryz.prog 3 := ⟨⟨_, Tryz.underlying3, rfl⟩, by kernel_rfl⟩
theorem oneBool : One Tryz.prog 4 := ⟨⟨_, Tryz.underlying4, rfl⟩, by kernel_rfl⟩
theorem oneU8 : One Tryz.prog 5 := ⟨⟨_, Tryz.underlying5, rfl⟩, by kernel_rfl⟩
theorem Own.fin {W0 w : World} {l : List (Nat × TypeId × List Value)} (h : Hid (Own W0 w l)) : Below W0.heap.size W0 w := h.out.below
end Go.Proofs.YtljjgakfnajifaaGreatDoor
namespace Go.Proofs.YtljjgakfnajifaaGreatDoor
open Go.RowKit
theorem aggR : Agg Tryz.prog 25 29 := ⟨⟨_, Tryz.underlying25, rfl⟩, by kernel_rfl⟩
theorem oneStr : One Tryz.prog 9 := ⟨⟨_, Tryz.underlying9, rfl⟩, by kernel_rfl⟩
theorem oneU16 : One Tryz.prog 23 := ⟨⟨_, Tryz.underlying23, rfl⟩, by kernel_rfl⟩
def rg0 : Rg := ⟨0, 0, 0, 0, 0, 0, 0, 0, 0, 0, 0, 0, 0, 0, 0, 0, 0, 0, 0, 0, 0, 0, 0, 0, 0, false, false, false, false⟩
theorem zeroR : Zero Tryz.prog 25 rg0.cells := ⟨.agg rg0.cells.toArray, fun _ => by kernel_rfl, rfl⟩
theorem aggAlt : Agg Tryz.prog 22 8 := ⟨⟨_, Tryz.underlying22, rfl⟩, by kernel_rfl⟩
theorem Rg.altDrop (r : Rg) : Drop r.cells 8 (r.alt ++ r.cells.drop 16) := by repeat' first | exact .z | apply Drop.s
theorem Rg.altTake (r : Rg) : Take (r.alt ++ r.cells.drop 16) 8 r.alt := by repeat' first | exact .z | apply Take.s
theorem alt_same (d : Nat) (x0 x1 x2 x3 x4 x5 x6 x7 : Int) (w : World) :
    (Op.equalIn (d + 2) 22 (.agg #[.int .u8 x0, .int .u8 x1, .int .u8 x2, .int .u8 x3, .int .u8 x4, .int .u8 x5, .int .u8 x6, .int .u8 x7]) (.agg #[.int .u8 x0, .int .u8 x1, .int .u8 x2, .int .u8 x3, .int .u8 x4, .int .u8 x5, .int .u8 x6, .int .u8 x7])).run Tryz.prog w = .ok true w := by
  unfold Op.equalIn
  simp only [Sem.run_bind, Tryz.runUnderlying22, Result.andThen_ok]
  have hr : List.range' 0 8 = [0, 1, 2, 3, 4, 5, 6, 7] := rfl
  have e (a b : Int) (w : World) : (Op.equalIn (d + 1) 5 (.int .u8 a) (.int .u8 b)).run Tryz.prog w = .ok (a == b) w := run_equalIn_int w d 5 .u8 .u8 a b Tryz.underlying5
  simp [go_sem, hr, e]
set_option maxRecDepth 10000 in
theorem Rg.same (r : Rg) (w : World) : (Op.equalIn 10000 25 r.v r.v).run Tryz.prog w = .ok true w := by
  obtain ⟨a, f, b, c, d, e, h, l, x0, x1, x2, x3, x4, x5, x6, x7, ix, iy, sp, pc, wz, i, r, im, px, q1, q2, ht, dl⟩ := r
  have e8 (a b : Int) (w : World) : (Op.equalIn 9999 5 (.int .u8 a) (.int .u8 b)).run Tryz.prog w = .ok (a == b) w := run_equalIn_int w 9998 5 .u8 .u8 a b Tryz.underlying5
  have e16 (a b : Int) (w : World) : (Op.equalIn 9999 23 (.int .u16 a) (.int .u16 b)).run Tryz.prog w = .ok (a == b) w := run_equalIn_int w 9998 23 .u16 .u16 a b Tryz.underlying23
  have eb (a b : Bool) (w : World) : (Op.equalIn 9999 4 (.bool a) (.bool b)).run Tryz.prog w = .ok (a == b) w := run_equalIn_bool w 9998 4 a b Tryz.underlying4
  have ea := alt_same 9997 x0 x1 x2 x3 x4 x5 x6 x7
  simp only [Nat.reduceAdd] at ea
  unfold Rg.v Rg.cells
  rw [run_equalIn_struct w 9999 25 _ _ Tryz.underlying25 (by kernel_rfl)]
  simp [go_sem, e8, e16, eb, ea]
theorem Rg.altSame (r : Rg) (w : World) : (Op.equalIn 10000 22 (.agg r.alt.toArray) (.agg r.alt.toArray)).run Tryz.prog w = .ok true w := by
  have ea := alt_same 9998 r.x0 r.x1 r.x2 r.x3 r.x4 r.x5 r.x6 r.x7 w
  simp only [Nat.reduceAdd] at ea
  exact ea
end Go.Proofs.YtljjgakfnajifaaGreatDoor
namespace Go.Proofs.YtljjgakfnajifaaGreatDoor
open Go.RowKit
def mcells (m : Nat → Nat) : List Value := (List.range 65536).map fun i => .int .u8 (m i : Int)
theorem mcells_length (m : Nat → Nat) : (mcells m).length = 65536 := by simp [mcells]
theorem mcells_get (m : Nat → Nat) (a : Nat) (h : a < 65536) : (mcells m)[a]? = some (.int .u8 (m a : Int)) := by
  unfold mcells
  rw [List.getElem?_map, List.getElem?_range h]
  rfl
theorem mcells_set (m : Nat → Nat) (a v : Nat) : (mcells m).set a (.int .u8 (v : Int)) = mcells (upd m a v) := by
  apply List.ext_getElem?
  intro i
  rw [List.getElem?_set]
  by_cases hi : i < 65536
  · rw [mcells_get _ i hi, mcells_get _ i hi]
    by_cases h : a = i
    · subst h; simp [mcells_length, hi, upd]
    · have : ¬ i = a := fun e => h e.symm
      simp [h, upd, this]
  · have e1 : (mcells m)[i]? = none := by rw [List.getElem?_eq_none]; rw [mcells_length]; omega
    have e2 : (mcells (upd m a v))[i]? = none := by rw [List.getElem?_eq_none]; rw [mcells_length]; omega
    rw [e1, e2]
    by_cases h : a = i
    · subst h; simp [mcells_length, hi]
    · simp [h]
theorem i64s_app (xs : List Int) (x : Int) : i64s xs ++ [.int .i64 x] = i64s (xs ++ [x]) := by simp [i64s]
abbrev Blocks := List (Nat × TypeId × List Value)
def IsBox (X : Blocks) (b : Nat) (u : U) : Prop :=
  ∃ gm lv R, X = (b, 40, [.slice (some ⟨gm, 0, none⟩) 65536 65536, lv]) :: (gm, 5, mcells u.m) :: R ∧ RowOf 3 1 R lv u.g.length (i64s u.g)
structure U.Good (u : U) (n : Nat) : Prop where
  m8 : ∀ i, u.m i < 256
  len : u.g.length + n ≤ 1000000
theorem U.Good.less {u : U} {n k : Nat} (h : u.Good n) (hk : k ≤ n) : u.Good k := ⟨h.m8, by have := h.len; omega⟩
structure Bx (W0 w : World) (b : Nat) (u : U) (l : Blocks) (n : Nat) : Prop where
  good : u.Good n
  own : ∃ X, IsBox X b u ∧ Own W0 w (l ++ X)
section
variable {W0 w w' : World} {b n k : Nat} {u : U} {l l' : Blocks}
theorem Bx.perm (h : Bx W0 w b u l n) (hp : l.Perm l') : Bx W0 w b u l' n := by
  obtain ⟨hg, X, hX, hO⟩ := h
  exact ⟨hg, X, hX, hO.perm (hp.append_right X)⟩
theorem Bx.less (h : Bx W0 w b u l n) (hk : k ≤ n) : Bx W0 w b u l k := ⟨h.good.less hk, h.own⟩
theorem Bx.call (h : Bx W0 w b u l n) (hb : Below w.heap.size w w') : Bx W0 w' b u l n := by
  obtain ⟨hg, X, hX, hO⟩ := h
  exact ⟨hg, X, hX, hO.call hb⟩
theorem Bx.drop {e : Nat × TypeId × List Value} (h : Bx W0 w b u (e :: l) n) : Bx W0 w b u l n := by
  obtain ⟨hg, X, hX, hO⟩ := h
  exact ⟨hg, X, hX, hO.forget⟩
end
theorem int_info' : (Tryz.prog.info? 3).map (fun i => (i.zero, i.size, i.bytes)) = some (some (.int .i64 0), 1, 8) := by kernel_rfl
theorem int_parts' : ∃ i : TypeInfo, Tryz.prog.info? 3 = some i ∧ i.zero = some (.int .i64 0) ∧ i.size = 1 ∧ i.bytes = 8 := by
  have h := int_info'
  cases hq : Tryz.prog.info? 3 with
  | none => rw [hq] at h; simp at h
  | some i => rw [hq] at h; simp at h; exact ⟨i, rfl, h.1, h.2.1, h.2.2⟩
theorem own_log {W0 w : World} {l : Blocks} {ops : Array Oper} {rest : List Oper} {o : Oper} {a : Act} {Q : Exit → Act → World → Prop} {g3 : Nat} {t3 : TypeId} {L R : Blocks} {v : Value} {g : List Int} {x : Int} {s y : Operand}
    (HM : Hid (Own W0 w l)) (hp : l.Perm ((g3, t3, [.int .i64 x]) :: (L ++ R))) (HR : Hid (RowOf 3 1 R v g.length (i64s g))) (hn : Hid (g.length + 1 ≤ 1000000)) (hgd : o.guard = none)
    (ho : o.op = .call { callee := .builtin .append, args := #[s, y], argTypes := #[38, 38] }) (hs : a.eval s = v) (hy : a.eval y = .slice (some ⟨g3, 0, none⟩) 1 1)
    (h : ∀ gg cap w' R', Hid (RowOf 3 1 R' (.slice (some ⟨gg, 0, none⟩) (g.length + 1) cap) (g ++ [x]).length (i64s (g ++ [x]))) → Hid (Own W0 w' (L ++ R')) → wpList Tryz.prog ops Q rest (a.put o.dst (.slice (some ⟨gg, 0, none⟩) (g.length + 1) cap)) w') : wpList Tryz.prog ops Q (o :: rest) a w := by
  obtain ⟨i0, hi, hz0, hz1, hz2⟩ := int_parts'
  refine own_grow HM hp HR.out hgd ho hs hy rfl rfl (by have := hn.out; omega) (by decide) Tryz.underlying38 hi hz0 hz1 hz2 rfl (by decide) ?_
  intro gg cap w' R' hR' hO
  refine h gg cap w' R' ?_ hO
  rw [i64s_app] at hR'
  rw [List.length_append]
  exact hR'
end Go.Proofs.YtljjgakfnajifaaGreatDoor
namespace Go.Proofs.YtljjgakfnajifaaGreatDoor
open Go.RowKit
theorem own_made {P : Program} {W0 w : World} {l : List (Nat × TypeId × List Value)} {ops : Array Oper} {rest : List Oper} {o : Oper} {a : Act} {Q : Exit → Act → World → Prop} {e : TypeId} {n : Nat} {cs : List Value} (HM : Hid (Own W0 w l))
    {t : TypeId} {parts : Array (Nat × Operand)} (ho : o.op = .buildSlice t n parts) {parts' : Array (Nat × Value)} (hx : ∀ w, (Instr.buildSlice t n parts').run P w = .ok (.slice (some ⟨w.heap.size, 0, none⟩) n n) (w.alloc (.cells cs.toArray e))) (hp : (parts.map fun (i, x) => (i, a.eval x)) = parts') (hw : Region.wanted o (yielded ops a.tmps) = true)
    (h : ∀ w' g, Hid (Own W0 w' ((g, e, cs) :: l)) → wpList P ops Q rest (a.put o.dst (.slice (some ⟨g, 0, none⟩) n n)) w') : wpList P ops Q (o :: rest) a w := by
  refine wpList_wanted hw fun K hK => ?_
  unfold Oper.wp execOp
  simp only [ho, Sem.run_bind, hp]
  rw [hx]
  exact hK _ _ (h _ _ (HM.out.new e cs))
end Go.Proofs.YtljjgakfnajifaaGreatDoor
namespace Go.Proofs.YtljjgakfnajifaaGreatDoor
open Go.RowKit
theorem tick_bits (x : Nat) (h : x < 256) : (x &&& 128 ||| ((x + 1) % 256 &&& 127)) = x / 128 * 128 + (x % 128 + 1) % 128 ∧ x &&& 128 < 256 ∧ (x + 1) % 256 &&& 127 < 256 := by
  refine ⟨?_, Nat.lt_of_le_of_lt Nat.and_le_left h, Nat.lt_of_le_of_lt Nat.and_le_left (Nat.mod_lt _ (by omega))⟩
  exact Nat.eq_of_beq_eq_true (allB_at (show allB 256 (fun x => Nat.beq (Nat.lor (Nat.land x 128) (Nat.land (Nat.mod (Nat.add x 1) 256) 127)) (Nat.add (Nat.mul (Nat.div x 128) 128) (Nat.mod (Nat.add (Nat.mod x 128) 1) 128))) = true by decide +kernel) x h)
set_option maxRecDepth 100000 in
set_option maxHeartbeats 1600000 in
theorem tick_at (r : Rg) (hr : r.r < 256) (w : World) : Calls Tryz.prog 77 #[r.v] w fun e w' => e = .returned r.tick.v ∧ Below w.heap.size w w' := by
  obtain ⟨x, hx⟩ : ∃ x, x = r.r := ⟨_, rfl⟩
  obtain ⟨C, hC⟩ : ∃ C, C = r.r / 128 * 128 + (r.r % 128 + 1) % 128 := ⟨_, rfl⟩
  have ht : r.tick = { r with r := C } := by unfold Rg.tick; rw [hC]
  rw [ht]
  have HX : (r.cells[22]?) = some (.int .u8 (x : Int)) := by rw [hx]; rfl
  have HC := Lib.hid HX
  rw [← hx] at hC hr
  clear hx ht HX
  obtain ⟨b1, b2, b3⟩ := tick_bits x hr
  obtain ⟨A, hA⟩ : ∃ A, x &&& 128 = A := ⟨_, rfl⟩
  obtain ⟨B, hB⟩ : ∃ B, (x + 1) % 256 &&& 127 = B := ⟨_, rfl⟩
  rw [hA] at b1 b2
  rw [hB] at b1 b3
  have e1 : bits .and .u8 (x : Int) 128 = (A : Int) := by rw [u8_and x 128 (by omega) (by omega) (by omega) (by omega), Int.toNat_natCast, ← hA]; rfl
  obtain ⟨y, hy⟩ : ∃ y, y = (x + 1) % 256 := ⟨_, rfl⟩
  have e2 : ((x : Int) + 1) % 256 = (y : Int) := by omega
  have e3 : bits .and .u8 (y : Int) 127 = (B : Int) := by rw [u8_and y 127 (by omega) (by omega) (by omega) (by omega), Int.toNat_natCast, ← hB, ← hy]; rfl
  have e4 : bits .or .u8 (A : Int) (B : Int) = (C : Int) := by rw [u8_or_nat A B b2 b3, b1, hC]
  have hx2 : (x : Int) < 256 := by omega
  clear hr hC hA hB hy b1 b2 b3
  have HM := Lib.hid (Own.start w)
  have tg1 : Hid True := trivial
  have tg2 : Hid True := trivial
  go_enter Tryz.func77, Tryz.ntmps77
  go_wp2_with (first
    | ((with_reducible apply own_box HM); exact rfl; (conv => lhs; whnf); exact rfl; exact rfl; (first | (clear tg1 HM; intro w' g1 HM) | (clear tg2 HM; intro w' g2 HM) | (clear tg3 HM; intro w' g3 HM) | (clear tg4 HM; intro w' g4 HM) | (clear HM; intro w' g' HM))) | ((with_reducible apply own_alloc HM); exact rfl; (with_reducible exact zeroR); exact rfl; (first | (clear tg1 HM; intro w' g1 HM) | (clear tg2 HM; intro w' g2 HM) | (clear tg3 HM; intro w' g3 HM) | (clear tg4 HM; intro w' g4 HM) | (clear HM; intro w' g' HM))) | ((with_reducible apply own_row HM); exact rfl; exact rfl; exact aggR; exact sS; exact rfl; exact lS) | ((with_reducible apply own_lay HM); exact rfl; exact rfl; exact rfl; exact sS; exact sS; exact aggR.size; exact lS; exact lS; (first | exact Rg.one1 _ | exact rfl); exact rfl; exact rfl; clear HM; intro w' HM) | ((with_reducible apply own_put HM); exact rfl; exact rfl; (conv => lhs; whnf); exact sS; exact sS; exact zS; exact rfl; exact rfl; (show (_ : Nat) < 29; decide); exact rfl; clear HM; intro w' HM)
    | ((with_reducible apply own_get HM); exact rfl; exact rfl; exact oneU8; (first | exact .z | exact .s .z); exact HC.out; exact rfl))
  refine bodyPost_ret (v := .agg (r.cells.set 22 (.int .u8 (C : Int))).toArray) (own_results HM Tryz.results77 _ rfl (by first | exact .z | exact .s .z) aggR) rfl ⟨rfl, Own.fin HM⟩
set_option maxRecDepth 100000 in
set_option maxHeartbeats 1600000 in
theorem rtick_at (r : Rg) (hr : r.r < 256) (w : World) : Calls Tryz.prog 27 #[r.v] w fun e w' => e = .returned r.tick.v ∧ Below w.heap.size w w' := by
  obtain ⟨x, hx⟩ : ∃ x, x = r.r := ⟨_, rfl⟩
  obtain ⟨C, hC⟩ : ∃ C, C = r.r / 128 * 128 + (r.r % 128 + 1) % 128 := ⟨_, rfl⟩
  have ht : r.tick = { r with r := C } := by unfold Rg.tick; rw [hC]
  rw [ht]
  have HX : (r.cells[22]?) = some (.int .u8 (x : Int)) := by rw [hx]; rfl
  have HC := Lib.hid HX
  rw [← hx] at hC hr
  clear hx ht HX
  have e1 : (x : Int) / 128 * 128 + ((x : Int) + 1) % 128 = (C : Int) := by omega
  have hx2 : (x : Int) < 256 := by omega
  clear hr hC
  have HM := Lib.hid (Own.start w)
  have tg1 : Hid True := trivial
  have tg2 : Hid True := trivial
  go_enter Tryz.func27, Tryz.ntmps27
  go_wp2_with (first
    | ((with_reducible apply own_box HM); exact rfl; (conv => lhs; whnf); exact rfl; exact rfl; (first | (clear tg1 HM; intro w' g1 HM) | (clear tg2 HM; intro w' g2 HM) | (clear tg3 HM; intro w' g3 HM) | (clear tg4 HM; intro w' g4 HM) | (clear HM; intro w' g' HM))) | ((with_reducible apply own_alloc HM); exact rfl; (with_reducible exact zeroR); exact rfl; (first | (clear tg1 HM; intro w' g1 HM) | (clear tg2 HM; intro w' g2 HM) | (clear tg3 HM; intro w' g3 HM) | (clear tg4 HM; intro w' g4 HM) | (clear HM; intro w' g' HM))) | ((with_reducible apply own_row HM); exact rfl; exact rfl; exact aggR; exact sS; exact rfl; exact lS) | ((with_reducible apply own_lay HM); exact rfl; exact rfl; exact rfl; exact sS; exact sS; exact aggR.size; exact lS; exact lS; (first | exact Rg.one1 _ | exact rfl); exact rfl; exact rfl; clear HM; intro w' HM) | ((with_reducible apply own_put HM); exact rfl; exact rfl; (conv => lhs; whnf); exact sS; exact sS; exact zS; exact rfl; exact rfl; (show (_ : Nat) < 29; decide); exact rfl; clear HM; intro w' HM)
    | ((with_reducible apply own_get HM); exact rfl; exact rfl; exact oneU8; (first | exact .z | exact .s .z); exact HC.out; exact rfl))
  refine bodyPost_ret (v := .agg (r.cells.set 22 (.int .u8 (C : Int))).toArray) (own_results HM Tryz.results27 _ rfl (by first | exact .z | exact .s .z) aggR) rfl ⟨rfl, Own.fin HM⟩
end Go.Proofs.YtljjgakfnajifaaGreatDoor
namespace Go.Proofs.YtljjgakfnajifaaGreatDoor
open Go.RowKit
theorem oneInts : One Tryz.prog 38 := ⟨⟨_, Tryz.underlying38, rfl⟩, by kernel_rfl⟩
theorem oneU8s : One Tryz.prog 30 := ⟨⟨_, Tryz.underlying30, rfl⟩, by kernel_rfl⟩
theorem made_int (x : Int) (w : World) : (Instr.buildSlice 38 1 #[(0, .int .i64 x)]).run Tryz.prog w = .ok (.slice (some ⟨w.heap.size, 0, none⟩) 1 1) (w.alloc (.cells [Value.int .i64 x].toArray 3)) := by kernel_rfl
theorem Bx.out {W0 w : World} {b n : Nat} {m : Nat → Nat} {g : List Int} {l : Blocks} (h : Bx W0 w b ⟨m, g⟩ l (n + 1)) :
    (∀ i, m i < 256) ∧ g.length + 1 + n ≤ 1000000 ∧ ∃ gm lv R N, N = 65536 ∧ RowOf 3 1 R lv g.length (i64s g) ∧ Own W0 w ((b, 40, [.slice (some ⟨gm, 0, none⟩) N N, lv]) :: (gm, 5, mcells m) :: (R ++ l)) := by
  obtain ⟨⟨h8, hl⟩, X, ⟨gm, lv, R, rfl, hR⟩, hO⟩ := h
  have hl' : g.length + (n + 1) ≤ 1000000 := hl
  exact ⟨h8, by omega, gm, lv, R, 65536, rfl, hR, hO.perm List.perm_append_comm⟩
theorem Bx.back {W0 w : World} {b n gm N : Nat} {m : Nat → Nat} {g : List Int} {l R : Blocks} {lv : Value} (h8 : ∀ i, m i < 256) (hl : g.length + n ≤ 1000000) (hN : N = 65536) (hR : RowOf 3 1 R lv g.length (i64s g))
    (h : Own W0 w ((b, 40, [.slice (some ⟨gm, 0, none⟩) N N, lv]) :: (gm, 5, mcells m) :: (l ++ R))) : Bx W0 w b ⟨m, g⟩ l n := by
  subst hN
  exact ⟨⟨h8, hl⟩, _, ⟨gm, lv, R, rfl, hR⟩, h.perm (((List.perm_append_comm.cons _).cons _).trans (List.perm_append_comm (l₁ := _ :: _ :: R)))⟩
theorem len_app {g : List Int} {x : Int} {n : Nat} (h : g.length + 1 + n ≤ 1000000) : (g ++ [x]).length + n ≤ 1000000 := by rw [List.length_append]; exact h
set_option maxRecDepth 100000 in
set_option maxHeartbeats 1600000 in
theorem box_read {W0 w : World} {b n : Nat} {u : U} {l : Blocks} (a : Nat) (ha : a < 65536) (h : Hid (Bx W0 w b u l (n + 1))) :
    Calls Tryz.prog 260 #[.pointer (some ⟨b, 0, none⟩), .int .u16 (a : Int)] w fun e w' => e = .returned (.int .u8 (u.m a : Int)) ∧ Hid (Bx W0 w' b (u.rd a) l n) := by
  obtain ⟨m, g⟩ := u
  obtain ⟨h8, hl, gm, lv, R, N, hN, hR, hO⟩ := h.out.out
  have H8 := Lib.hid h8
  have HR := Lib.hid hR
  have HM := Lib.hid hO
  have HNN := Lib.hid hN
  have HN : Hid (g.length + 1 ≤ 1000000) := Lib.hid (by omega)
  have HL := Lib.hid hl
  have HA := Lib.hid ha
  have ha2 : (a : Int) < 65536 := by omega
  have ha4 : (a : Int) < (N : Int) := by omega
  clear ha
  clear h h8 hR hO hl hN
  have tg1 : Hid True := trivial
  go_enter Tryz.func260, Tryz.ntmps260
  go_wp2_with (first
    | ((with_reducible apply own_box HM); exact rfl; (conv => lhs; whnf); exact rfl; exact rfl; (first | (clear tg1 HM; intro w' g1 HM) | (clear tg2 HM; intro w' g2 HM) | (clear tg3 HM; intro w' g3 HM) | (clear tg4 HM; intro w' g4 HM) | (clear HM; intro w' g' HM))) | ((with_reducible apply own_cell HM); exact rfl; exact rfl; (first | (with_reducible exact oneInts) | (with_reducible exact oneU8s)); exact sS; exact dS; exact rfl) | ((with_reducible apply own_store HM); exact rfl; exact rfl; (conv => lhs; whnf); exact rfl; exact sS; exact vS; exact sS; (first | (with_reducible exact (oneInts).size) | (with_reducible exact (oneU8s).size)); exact rfl; exact rfl; exact rfl; exact rfl; clear HM; intro w' HM) | ((with_reducible apply own_made (cs := [.int .i64 (a : Int)]) (e := 3) (n := 1) HM); exact rfl; exact made_int (a : Int); (focus (go_simp; done)); exact rfl; clear tg1; intro w' g1 HM'; clear HM; have HM := HM'; clear HM') | (refine own_log (x := (a : Int)) (L := _ :: _ :: l) HM (((List.perm_append_comm.cons _).cons _).cons _) HR HN rfl rfl rfl rfl ?_; intro gg cap w1 R1 HR' HM'; clear HM HR; have HM : Hid (Own W0 w1 (_ :: _ :: (l ++ R1))) := HM'; have HR := HR'; clear HM' HR') | ((with_reducible apply own_get HM); exact rfl; exact rfl; (with_reducible exact oneU8); exact .s .z; exact mcells_get m a HA.out; exact rfl))
  go_ret
  exact ⟨rfl, Bx.back H8.out (n := n) (len_app HL.out) HNN.out HR.out HM.out⟩
set_option maxRecDepth 100000 in
set_option maxHeartbeats 1600000 in
theorem box_write {W0 w : World} {b n : Nat} {u : U} {l : Blocks} (a v : Nat) (ha : a < 65536) (hv : v < 256) (h : Hid (Bx W0 w b u l (n + 1))) :
    Calls Tryz.prog 261 #[.pointer (some ⟨b, 0, none⟩), .int .u16 (a : Int), .int .u8 (v : Int)] w fun e w' => e = .returned (.tuple #[]) ∧ Hid (Bx W0 w' b (u.wr a v) l n) := by
  obtain ⟨m, g⟩ := u
  obtain ⟨h8, hl, gm, lv, R, N, hN, hR, hO⟩ := h.out.out
  have H8 := Lib.hid h8
  have HR := Lib.hid hR
  have HM := Lib.hid hO
  have HNN := Lib.hid hN
  have HN : Hid (g.length + 1 ≤ 1000000) := Lib.hid (by omega)
  have HL := Lib.hid hl
  have HA := Lib.hid ha
  have ha2 : (a : Int) < 65536 := by omega
  have ha4 : (a : Int) < (N : Int) := by omega
  clear ha
  have HV := Lib.hid hv
  have hv2 : (v : Int) < 256 := by omega
  clear hv
  clear h h8 hR hO hl hN
  have tg1 : Hid True := trivial
  go_enter Tryz.func261, Tryz.ntmps261
  go_wp2_with (first
    | ((with_reducible apply own_box HM); exact rfl; (conv => lhs; whnf); exact rfl; exact rfl; (first | (clear tg1 HM; intro w' g1 HM) | (clear tg2 HM; intro w' g2 HM) | (clear tg3 HM; intro w' g3 HM) | (clear tg4 HM; intro w' g4 HM) | (clear HM; intro w' g' HM))) | ((with_reducible apply own_cell HM); exact rfl; exact rfl; (first | (with_reducible exact oneInts) | (with_reducible exact oneU8s)); exact sS; exact dS; exact rfl) | ((with_reducible apply own_store HM); exact rfl; exact rfl; (conv => lhs; whnf); exact rfl; exact sS; exact vS; exact sS; (first | (with_reducible exact (oneInts).size) | (with_reducible exact (oneU8s).size)); exact rfl; exact rfl; exact rfl; exact rfl; clear HM; intro w' HM) | ((with_reducible apply own_made (cs := [.int .i64 (1000000 + (a : Int) * 256 + (v : Int))]) (e := 3) (n := 1) HM); exact rfl; exact made_int (1000000 + (a : Int) * 256 + (v : Int)); (focus (go_simp; done)); exact rfl; clear tg1; intro w' g1 HM'; clear HM; have HM := HM'; clear HM') | (refine own_log (x := (1000000 + (a : Int) * 256 + (v : Int))) (L := _ :: _ :: l) HM (((List.perm_append_comm.cons _).cons _).cons _) HR HN rfl rfl rfl rfl ?_; intro gg cap w1 R1 HR' HM'; clear HM HR; have HM : Hid (Own W0 w1 (_ :: _ :: (l ++ R1))) := HM'; have HR := HR'; clear HM' HR') | ((with_reducible apply own_put HM (v := .int .u8 (v : Int)) (cs := mcells m)); exact rfl; exact rfl; exact rfl; exact .s .z; exact .s .z; exact oneU8.size; exact rfl; exact rfl; (rw [mcells_length]; exact HA.out); exact rfl; clear HM; intro w' HM))
  go_end0
  exact ⟨rfl, Bx.back (upd_lt H8.out a v HV.out) (n := n) (len_app HL.out) HNN.out HR.out (mcells_set m a v ▸ HM.out)⟩
set_option maxRecDepth 100000 in
set_option maxHeartbeats 1600000 in
theorem box_out {W0 w : World} {b n : Nat} {u : U} {l : Blocks} (p v t : Nat) (hp : p < 65536) (hv : v < 256) (ht : t < 64) (h : Hid (Bx W0 w b u l (n + 1))) :
    Calls Tryz.prog 259 #[.pointer (some ⟨b, 0, none⟩), .int .u16 (p : Int), .int .u8 (v : Int), .int .i64 (t : Int)] w fun e w' => e = .returned (.tuple #[]) ∧ Hid (Bx W0 w' b (u.op p v t) l n) := by
  obtain ⟨m, g⟩ := u
  obtain ⟨h8, hl, gm, lv, R, N, hN, hR, hO⟩ := h.out.out
  have H8 := Lib.hid h8
  have HR := Lib.hid hR
  have HM := Lib.hid hO
  have HNN := Lib.hid hN
  have HN : Hid (g.length + 1 ≤ 1000000) := Lib.hid (by omega)
  have HL := Lib.hid hl
  have hp2 : (p : Int) < 65536 := by omega
  have ht2 : (t : Int) < 64 := by omega
  clear hp ht
  have hv2 : (v : Int) < 256 := by omega
  clear hv
  clear h h8 hR hO hl hN
  have tg1 : Hid True := trivial
  go_enter Tryz.func259, Tryz.ntmps259
  go_wp2_with (first
    | ((with_reducible apply own_box HM); exact rfl; (conv => lhs; whnf); exact rfl; exact rfl; (first | (clear tg1 HM; intro w' g1 HM) | (clear tg2 HM; intro w' g2 HM) | (clear tg3 HM; intro w' g3 HM) | (clear tg4 HM; intro w' g4 HM) | (clear HM; intro w' g' HM))) | ((with_reducible apply own_cell HM); exact rfl; exact rfl; (first | (with_reducible exact oneInts) | (with_reducible exact oneU8s)); exact sS; exact dS; exact rfl) | ((with_reducible apply own_store HM); exact rfl; exact rfl; (conv => lhs; whnf); exact rfl; exact sS; exact vS; exact sS; (first | (with_reducible exact (oneInts).size) | (with_reducible exact (oneU8s).size)); exact rfl; exact rfl; exact rfl; exact rfl; clear HM; intro w' HM) | ((with_reducible apply own_made (cs := [.int .i64 (1000000000 + ((p : Int) * 64 + (t : Int)) * 256 + (v : Int))]) (e := 3) (n := 1) HM); exact rfl; exact made_int (1000000000 + ((p : Int) * 64 + (t : Int)) * 256 + (v : Int)); (focus (go_simp; done)); exact rfl; clear tg1; intro w' g1 HM'; clear HM; have HM := HM'; clear HM') | (refine own_log (x := (1000000000 + ((p : Int) * 64 + (t : Int)) * 256 + (v : Int))) (L := _ :: _ :: l) HM (((List.perm_append_comm.cons _).cons _).cons _) HR HN rfl rfl rfl rfl ?_; intro gg cap w1 R1 HR' HM'; clear HM HR; have HM : Hid (Own W0 w1 (_ :: _ :: (l ++ R1))) := HM'; have HR := HR'; clear HM' HR'))
  go_end0
  exact ⟨rfl, Bx.back H8.out (n := n) (len_app HL.out) HNN.out HR.out HM.out⟩
set_option maxRecDepth 100000 in
set_option maxHeartbeats 1600000 in
theorem box_in {W0 w : World} {b n : Nat} {u : U} {l : Blocks} (p t : Nat) (hp : p < 65536) (ht : t < 64) (h : Hid (Bx W0 w b u l (n + 1))) :
    Calls Tryz.prog 258 #[.pointer (some ⟨b, 0, none⟩), .int .u16 (p : Int), .int .i64 (t : Int)] w fun e w' => e = .returned (.int .u8 (u.ipV p t : Int)) ∧ Hid (Bx W0 w' b (u.ip p t) l n) := by
  obtain ⟨m, g⟩ := u
  obtain ⟨h8, hl, gm, lv, R, N, hN, hR, hO⟩ := h.out.out
  have H8 := Lib.hid h8
  have HR := Lib.hid hR
  have HM := Lib.hid hO
  have HNN := Lib.hid hN
  have HN : Hid (g.length + 1 ≤ 1000000) := Lib.hid (by omega)
  have HL := Lib.hid hl
  have hp2 : (p : Int) < 65536 := by omega
  have ht2 : (t : Int) < 64 := by omega
  clear hp ht
  have hg2 : (g.length : Int) + 1 ≤ 1000000 := by omega
  clear h h8 hR hO hl hN
  have tg1 : Hid True := trivial
  go_enter Tryz.func258, Tryz.ntmps258
  go_wp2_with (first
    | ((with_reducible apply own_box HM); exact rfl; (conv => lhs; whnf); exact rfl; exact rfl; (first | (clear tg1 HM; intro w' g1 HM) | (clear tg2 HM; intro w' g2 HM) | (clear tg3 HM; intro w' g3 HM) | (clear tg4 HM; intro w' g4 HM) | (clear HM; intro w' g' HM))) | ((with_reducible apply own_cell HM); exact rfl; exact rfl; (first | (with_reducible exact oneInts) | (with_reducible exact oneU8s)); exact sS; exact dS; exact rfl) | ((with_reducible apply own_store HM); exact rfl; exact rfl; (conv => lhs; whnf); exact rfl; exact sS; exact vS; exact sS; (first | (with_reducible exact (oneInts).size) | (with_reducible exact (oneU8s).size)); exact rfl; exact rfl; exact rfl; exact rfl; clear HM; intro w' HM) | ((with_reducible apply own_made (cs := [.int .i64 (100000000 + (p : Int) * 64 + (t : Int))]) (e := 3) (n := 1) HM); exact rfl; exact made_int (100000000 + (p : Int) * 64 + (t : Int)); (focus (go_simp; done)); exact rfl; clear tg1; intro w' g1 HM'; clear HM; have HM := HM'; clear HM') | (refine own_log (x := (100000000 + (p : Int) * 64 + (t : Int))) (L := _ :: _ :: l) HM (((List.perm_append_comm.cons _).cons _).cons _) HR HN rfl rfl rfl rfl ?_; intro gg cap w1 R1 HR' HM'; clear HM HR; have HM : Hid (Own W0 w1 (_ :: _ :: (l ++ R1))) := HM'; have HR := HR'; clear HM' HR'))
  go_ret
  exact ⟨rfl, Bx.back H8.out (n := n) (len_app HL.out) HNN.out HR.out HM.out⟩
end Go.Proofs.YtljjgakfnajifaaGreatDoor
namespace Go.Proofs.YtljjgakfnajifaaGreatDoor
def flipV (op : Int) (a : Nat) : Nat := if op = 0 then 255 - a else a
def flipF (op : Int) (a f : Nat) : Nat := if op = 0 then nFlipF0 a f else if op = 1 then nFlipF1 a f else if op = 2 then nFlipF2 a f else f
theorem flipV_lt (op : Int) (a : Nat) (h : a < 256) : flipV op a < 256 := by unfold flipV; split <;> omega
theorem flipF_lt (op : Int) (a f : Nat) (h : f < 256) : flipF op a f < 256 := by
  unfold flipF
  split
  · exact nByte_lt _ _ _ _ _ _ _ _
  · split
    · exact nByte_lt _ _ _ _ _ _ _ _
    · split
      · exact nByte_lt _ _ _ _ _ _ _ _
      · exact h
def nDoV (k a b f : Nat) : Nat :=
  match k with
  | 0 => nAddV a b 0 | 1 => nAddV a b (cond (nBit 1 f) 1 0) | 2 => nSubV a b 0 | 3 => nSubV a b (cond (nBit 1 f) 1 0)
  | 4 => a &&& b | 5 => a ^^^ b | 6 => a ||| b | _ => a
def nDoF (k a b f : Nat) : Nat :=
  match k with
  | 0 => nAddF a b 0 | 1 => nAddF a b (cond (nBit 1 f) 1 0) | 2 => nSubF a b 0 | 3 => nSubF a b (cond (nBit 1 f) 1 0)
  | 4 => nBitsF (a &&& b) true | 5 => nBitsF (a ^^^ b) false | 6 => nBitsF (a ||| b) false | _ => nCmp a b
theorem nDoV_lt (k a b f : Nat) (hk : k < 8) (ha : a < 256) (hb : b < 256) : nDoV k a b f < 256 := by
  match k, hk with
  | 0, _ => exact nAddV_lt _ _ _
  | 1, _ => exact nAddV_lt _ _ _
  | 2, _ => exact nSubV_lt _ _ _
  | 3, _ => exact nSubV_lt _ _ _
  | 4, _ => exact and8 ha
  | 5, _ => exact xor8 ha hb
  | 6, _ => exact or8 ha hb
  | 7, _ => exact ha
theorem nDoF_lt (k a b f : Nat) (hk : k < 8) : nDoF k a b f < 256 := by
  match k, hk with
  | 0, _ => exact nAddF_lt _ _ _
  | 1, _ => exact nAddF_lt _ _ _
  | 2, _ => exact nSubF_lt _ _ _
  | 3, _ => exact nSubF_lt _ _ _
  | 4, _ => exact nBitsF_lt _ _
  | 5, _ => exact nBitsF_lt _ _
  | 6, _ => exact nBitsF_lt _ _
  | 7, _ => exact nCmp_lt _ _
end Go.Proofs.YtljjgakfnajifaaGreatDoor
namespace Go.Proofs.YtljjgakfnajifaaGreatDoor
open Go.RowKit
def wHigh (v : Nat) : Nat := Nat.div v 256
def wAddV (a b c : Nat) : Nat := Nat.mod (Nat.add (Nat.add a b) c) 65536
def wHalf (a b c : Nat) : Bool := Nat.ble 4096 (Nat.add (Nat.add (Nat.mod a 4096) (Nat.mod b 4096)) c)
def wCar (a b c : Nat) : Bool := Nat.ble 65536 (Nat.add (Nat.add a b) c)
def wTurn (a : Nat) : Nat := Nat.mod (Nat.add a 32768) 65536
def wOver (t : Nat) : Bool := not (and (Nat.ble 32768 t) (Nat.ble t 98303))
def wTold (a b c : Nat) : Nat := nByte false false false (wHalf a b c) false false false (wCar a b c)
def wAddF (a b f : Nat) : Nat :=
  nByte (nBit 128 f) (nBit 64 f) (nBit 32 (wHigh (wAddV a b 0))) (wHalf a b 0) (nBit 8 (wHigh (wAddV a b 0))) (nBit 4 f) false (wCar a b 0)
def wAdcF (a b c : Nat) : Nat :=
  nByte (nS (wHigh (wAddV a b c))) (nZ (wAddV a b c)) (nBit 32 (wHigh (wAddV a b c))) (wHalf a b c) (nBit 8 (wHigh (wAddV a b c))) (wOver (Nat.add (Nat.add (wTurn a) (wTurn b)) c)) false (wCar a b c)
def wSubV (a b c : Nat) : Nat := Nat.mod (Nat.sub (Nat.add a 131072) (Nat.add b c)) 65536
def wHalfS (a b c : Nat) : Bool := Nat.ble (Nat.add (Nat.mod a 4096) 1) (Nat.add (Nat.mod b 4096) c)
def wCarS (a b c : Nat) : Bool := Nat.ble (Nat.add a 1) (Nat.add b c)
def wSbcF (a b c : Nat) : Nat :=
  nByte (nS (wHigh (wSubV a b c))) (nZ (wSubV a b c)) (nBit 32 (wHigh (wSubV a b c))) (wHalfS a b c) (nBit 8 (wHigh (wSubV a b c))) (wOver (Nat.sub (Nat.add (wTurn a) 65536) (Nat.add (wTurn b) c))) true (wCarS a b c)
def wMove (v b : Nat) : Nat := Nat.mod (Nat.add v (cond (Nat.ble 128 b) (Nat.add b 65280) b)) 65536
theorem wAddV_lt (a b c : Nat) : wAddV a b c < 65536 := Nat.mod_lt _ (by omega)
theorem wSubV_lt (a b c : Nat) : wSubV a b c < 65536 := Nat.mod_lt _ (by omega)
theorem wTold_lt (a b c : Nat) : wTold a b c < 256 := nByte_lt _ _ _ _ _ _ _ _
theorem wAddF_lt (a b f : Nat) : wAddF a b f < 256 := nByte_lt _ _ _ _ _ _ _ _
theorem wAdcF_lt (a b c : Nat) : wAdcF a b c < 256 := nByte_lt _ _ _ _ _ _ _ _
theorem wSbcF_lt (a b c : Nat) : wSbcF a b c < 256 := nByte_lt _ _ _ _ _ _ _ _
theorem wMove_lt (v b : Nat) : wMove v b < 65536 := Nat.mod_lt _ (by omega)
theorem wHigh_lt (v : Nat) (h : v < 65536) : wHigh v < 256 := by show v / 256 < 256; omega
theorem ble_t {a b : Nat} (h : a ≤ b) : Nat.ble a b = true := by rw [Nat.ble_eq]; exact h
theorem ble_f {a b : Nat} (h : ¬ a ≤ b) : Nat.ble a b = false := by rw [← Bool.not_eq_true, Nat.ble_eq]; exact h
theorem xor_bit (i a b : Nat) : (a ^^^ b) / 2 ^ i % 2 = (a / 2 ^ i + b / 2 ^ i) % 2 := by
  have h := Nat.testBit_xor a b i
  simp only [Nat.testBit_eq_decide_div_mod_eq] at h
  have ha := Nat.mod_two_eq_zero_or_one (a / 2 ^ i)
  have hb := Nat.mod_two_eq_zero_or_one (b / 2 ^ i)
  have hc := Nat.mod_two_eq_zero_or_one ((a ^^^ b) / 2 ^ i)
  rw [Nat.add_mod]
  rcases ha with ha | ha <;> rcases hb with hb | hb <;> rcases hc with hc | hc <;> simp_all
theorem and_bit (i a b : Nat) : (a &&& b) / 2 ^ i % 2 = (a / 2 ^ i % 2) * (b / 2 ^ i % 2) := by
  have h := Nat.testBit_and a b i
  simp only [Nat.testBit_eq_decide_div_mod_eq] at h
  have ha := Nat.mod_two_eq_zero_or_one (a / 2 ^ i)
  have hb := Nat.mod_two_eq_zero_or_one (b / 2 ^ i)
  have hc := Nat.mod_two_eq_zero_or_one ((a &&& b) / 2 ^ i)
  rcases ha with ha | ha <;> rcases hb with hb | hb <;> rcases hc with hc | hc <;> simp_all
theorem wHalf_iff (a b c : Nat) : wHalf a b c = true ↔ 4096 ≤ a % 4096 + b % 4096 + c := by unfold wHalf; rw [Nat.ble_eq]; exact Iff.rfl
theorem wCar_iff (a b c : Nat) : wCar a b c = true ↔ 65536 ≤ a + b + c := by unfold wCar; rw [Nat.ble_eq]; exact Iff.rfl
theorem wOver_iff (t : Nat) : wOver t = true ↔ ¬ (32768 ≤ t ∧ t ≤ 98303) := by
  unfold wOver
  rw [Bool.not_eq_true', ← Bool.not_eq_true, Bool.and_eq_true, Nat.ble_eq, Nat.ble_eq]
theorem false_of {b : Bool} {p : Prop} (h : b = true ↔ p) (n : ¬ p) : b = false := by rw [← Bool.not_eq_true, h]; exact n
theorem half_bit (a b c v : Nat) (_ha : a < 65536) (_hb : b < 65536) (hc : c ≤ 1) (hv : wAddV a b c = v) : (wHigh (a ^^^ b ^^^ v)) &&& 16 = cond (wHalf a b c) 16 0 := by
  rw [show (16 : Nat) = 2 ^ 4 from rfl, nat_bit]
  have e : wHigh (a ^^^ b ^^^ v) / 2 ^ 4 % 2 = (a / 4096 + b / 4096 + v / 4096) % 2 := by
    show (a ^^^ b ^^^ v) / 256 / 2 ^ 4 % 2 = _
    rw [Nat.div_div_eq_div_mul, show 256 * 2 ^ 4 = 2 ^ 12 from rfl, xor_bit]
    have := xor_bit 12 a b
    simp only [show (2 : Nat) ^ 12 = 4096 from rfl] at this ⊢
    omega
  rw [e]
  have hv' : (a + b + c) % 65536 = v := hv
  by_cases h : 4096 ≤ a % 4096 + b % 4096 + c
  · rw [(wHalf_iff a b c).2 h]
    show _ * 2 ^ 4 = 2 ^ 4
    have : (a / 4096 + b / 4096 + v / 4096) % 2 = 1 := by omega
    rw [this]
  · rw [false_of (wHalf_iff a b c) h]
    show _ * 2 ^ 4 = 0
    have : (a / 4096 + b / 4096 + v / 4096) % 2 = 0 := by omega
    rw [this]
theorem car_bit (a b c : Nat) (ha : a < 65536) (hb : b < 65536) (hc : c ≤ 1) : ((a + b + c) / 65536) &&& 1 = cond (wCar a b c) 1 0 := by
  rw [Nat.and_one_is_mod]
  by_cases h : 65536 ≤ a + b + c
  · rw [(wCar_iff a b c).2 h]
    show _ = 1
    omega
  · rw [false_of (wCar_iff a b c) h]
    show _ = 0
    omega
theorem told_bits (a b c v : Nat) (ha : a < 65536) (hb : b < 65536) (hc : c ≤ 1) (hv : wAddV a b c = v) :
    (((a + b + c) / 65536 &&& 1) ||| (wHigh (a ^^^ b ^^^ v) &&& 16)) = wTold a b c := by
  rw [half_bit a b c v ha hb hc hv, car_bit a b c ha hb hc]
  unfold wTold
  cases wHalf a b c <;> cases wCar a b c <;> rfl
theorem over_bit (a b c v : Nat) (ha : a < 65536) (hb : b < 65536) (hc : c ≤ 1) (hv : wAddV a b c = v) :
    (((a ^^^ v) &&& (b ^^^ v)) / 8192) &&& 4 = cond (wOver (Nat.add (Nat.add (wTurn a) (wTurn b)) c)) 4 0 := by
  rw [show (4 : Nat) = 2 ^ 2 from rfl, nat_bit]
  rw [Nat.div_div_eq_div_mul, show 8192 * 2 ^ 2 = 2 ^ 15 from rfl, and_bit, xor_bit, xor_bit]
  have hv' : (a + b + c) % 65536 = v := hv
  simp only [show (2 : Nat) ^ 15 = 32768 from rfl]
  obtain ⟨s, hs⟩ : ∃ s, Nat.add (Nat.add (wTurn a) (wTurn b)) c = s := ⟨_, rfl⟩
  rw [hs]
  have hs' : (a + 32768) % 65536 + (b + 32768) % 65536 + c = s := hs
  by_cases h : 32768 ≤ s ∧ s ≤ 98303
  · rw [false_of (wOver_iff s) (fun n => n h)]
    show _ = 0
    have : (a / 32768 + v / 32768) % 2 = 0 ∨ (b / 32768 + v / 32768) % 2 = 0 := by omega
    rcases this with e | e <;> rw [e] <;> simp
  · have : (a / 32768 + v / 32768) % 2 = 1 ∧ (b / 32768 + v / 32768) % 2 = 1 := by omega
    rw [this.1, this.2, (wOver_iff s).2 h]
    rfl
theorem three_bits (v : Nat) (h : v < 256) : v &&& 168 = nByte (nS v) false (nBit 32 v) false (nBit 8 v) false false false :=
  Nat.eq_of_beq_eq_true (allB_at (show allB 256 (fun v => Nat.beq (Nat.land v 168) (nByte (nS v) false (nBit 32 v) false (nBit 8 v) false false false)) = true by decide +kernel) v h)
theorem stray_bits (v : Nat) (h : v < 256) : v &&& 40 = nByte false false (nBit 32 v) false (nBit 8 v) false false false :=
  Nat.eq_of_beq_eq_true (allB_at (show allB 256 (fun v => Nat.beq (Nat.land v 40) (nByte false false (nBit 32 v) false (nBit 8 v) false false false)) = true by decide +kernel) v h)
theorem kept_bits (v : Nat) (h : v < 256) : v &&& 196 = nByte (nBit 128 v) (nBit 64 v) false false false (nBit 4 v) false false :=
  Nat.eq_of_beq_eq_true (allB_at (show allB 256 (fun v => Nat.beq (Nat.land v 196) (nByte (nBit 128 v) (nBit 64 v) false false false (nBit 4 v) false false)) = true by decide +kernel) v h)
theorem wadd_flags (a b f v t g : Nat) (hf : f < 256) (hv : wAddV a b 0 = v) (ht : wTold a b 0 = t) (hg : wAddF a b f = g) : (t ||| (f &&& 196)) ||| (wHigh v &&& 40) = g := by
  have v1 : v < 65536 := hv ▸ wAddV_lt _ _ _
  rw [kept_bits f hf, stray_bits _ (wHigh_lt v v1), ← ht, ← hg]
  unfold wTold wAddF
  rw [hv]
  generalize nBit 128 f = s; generalize nBit 64 f = z; generalize nBit 4 f = p; generalize nBit 32 (wHigh v) = y; generalize nBit 8 (wHigh v) = x; generalize wHalf a b 0 = h; generalize wCar a b 0 = c
  cases s <;> cases z <;> cases p <;> cases y <;> cases x <;> cases h <;> cases c <;> rfl
theorem wadc_flags (a b c v t g z : Nat) (ha : a < 65536) (hb : b < 65536) (hc : c ≤ 1) (hv : wAddV a b c = v) (ht : wTold a b c = t) (hg : wAdcF a b c = g) (hz : cond (nZ v) 64 0 = z) :
    ((t ||| ((((a ^^^ v) &&& (b ^^^ v)) / 8192) &&& 4)) ||| (wHigh v &&& 168)) ||| z = g := by
  have v1 : v < 65536 := hv ▸ wAddV_lt _ _ _
  rw [over_bit a b c v ha hb hc hv, three_bits _ (wHigh_lt v v1), ← ht, ← hg, ← hz]
  unfold wTold wAdcF
  rw [hv]
  generalize wOver _ = p; generalize nS (wHigh v) = s; generalize nZ v = z; generalize nBit 32 (wHigh v) = y; generalize nBit 8 (wHigh v) = x; generalize wHalf a b c = h; generalize wCar a b c = c
  cases s <;> cases z <;> cases p <;> cases y <;> cases x <;> cases h <;> cases c <;> rfl
theorem wsub_by_add (a b c : Nat) (ha : a < 65536) (hb : b < 65536) (hc : c ≤ 1) : wAddV a (65535 - b) (1 - c) = wSubV a b c ∧ (wAdcF a (65535 - b) (1 - c) ^^^ 17) ||| 2 = wSbcF a b c := by
  have hv : wAddV a (65535 - b) (1 - c) = wSubV a b c := by
    show (a + (65535 - b) + (1 - c)) % 65536 = (a + 131072 - (b + c)) % 65536
    omega
  refine ⟨hv, ?_⟩
  unfold wAdcF wSbcF
  rw [hv]
  have e1 : wHalf a (65535 - b) (1 - c) = not (wHalfS a b c) := by
    unfold wHalf wHalfS
    rw [Bool.eq_iff_iff, Bool.not_eq_true', Bool.eq_false_iff]
    simp only [ne_eq, Nat.ble_eq]
    show 4096 ≤ a % 4096 + (65535 - b) % 4096 + (1 - c) ↔ ¬ (a % 4096 + 1 ≤ b % 4096 + c)
    omega
  have e2 : wCar a (65535 - b) (1 - c) = not (wCarS a b c) := by
    unfold wCar wCarS
    rw [Bool.eq_iff_iff, Bool.not_eq_true', Bool.eq_false_iff]
    simp only [ne_eq, Nat.ble_eq]
    show 65536 ≤ a + (65535 - b) + (1 - c) ↔ ¬ (a + 1 ≤ b + c)
    omega
  have e3 : Nat.add (Nat.add (wTurn a) (wTurn (65535 - b))) (1 - c) = Nat.sub (Nat.add (wTurn a) 65536) (Nat.add (wTurn b) c) := by
    show (a + 32768) % 65536 + (65535 - b + 32768) % 65536 + (1 - c) = (a + 32768) % 65536 + 65536 - ((b + 32768) % 65536 + c)
    omega
  rw [e1, e2, e3]
  generalize nS (wHigh (wSubV a b c)) = s
  generalize nZ (wSubV a b c) = z
  generalize nBit 32 (wHigh (wSubV a b c)) = y
  generalize nBit 8 (wHigh (wSubV a b c)) = x
  generalize wHalfS a b c = h
  generalize wCarS a b c = k
  generalize wOver _ = p
  cases s <;> cases z <;> cases y <;> cases h <;> cases x <;> cases p <;> cases k <;> rfl
theorem wadd_swap (a b k : Nat) : wAddV b a k = wAddV a b k ∧ wAdcF b a k = wAdcF a b k := by
  have e : wAddV b a k = wAddV a b k := by show (b + a + k) % 65536 = (a + b + k) % 65536; omega
  refine ⟨e, ?_⟩
  unfold wAdcF wHalf wCar
  rw [e]
  rw [show Nat.add (Nat.add (Nat.mod b 4096) (Nat.mod a 4096)) k = Nat.add (Nat.add (Nat.mod a 4096) (Nat.mod b 4096)) k by show b % 4096 + a % 4096 + k = a % 4096 + b % 4096 + k; omega,
    show Nat.add (Nat.add (wTurn b) (wTurn a)) k = Nat.add (Nat.add (wTurn a) (wTurn b)) k by show wTurn b + wTurn a + k = wTurn a + wTurn b + k; omega,
    show Nat.add (Nat.add b a) k = Nat.add (Nat.add a b) k by show b + a + k = a + b + k; omega]
theorem wadd_sub (a b k v : Nat) (ha : a < 65536) (hb : b < 65536) (hk : k ≤ 1) (hv : wAddV a b k = v) : wSubV v b k = a := by
  rw [← hv]
  show ((a + b + k) % 65536 + 131072 - (b + k)) % 65536 = a
  omega
theorem wkeep (a b f z : Nat) (hf : f < 256) (hz : wAddF a b f = z) : (z ^^^ f) &&& 196 = 0 ∧ z &&& 2 = 0 := by
  have h : (wAddF a b f ^^^ nByte (nBit 128 f) (nBit 64 f) (nBit 32 f) (nBit 16 f) (nBit 8 f) (nBit 4 f) (nBit 2 f) (nBit 1 f)) &&& 196 = 0 ∧ wAddF a b f &&& 2 = 0 := by
    unfold wAddF
    generalize nBit 128 f = s; generalize nBit 64 f = z; generalize nBit 4 f = p; generalize nBit 32 (wHigh (wAddV a b 0)) = y; generalize nBit 8 (wHigh (wAddV a b 0)) = x; generalize wHalf a b 0 = h; generalize wCar a b 0 = c
    generalize nBit 32 f = y'; generalize nBit 16 f = h'; generalize nBit 8 f = x'; generalize nBit 2 f = n'; generalize nBit 1 f = c'
    revert s z p y x h c y' h' x' n' c'
    decide +kernel
  rw [nByte_of f hf, hz] at h
  exact h
theorem wadc_n (a b c g : Nat) (hg : wAdcF a b c = g) : g &&& 2 = 0 := by
  rw [← hg]
  unfold wAdcF
  generalize wOver _ = p; generalize nS _ = s; generalize nZ _ = z; generalize nBit 32 _ = y; generalize nBit 8 _ = x; generalize wHalf a b c = h; generalize wCar a b c = c
  cases s <;> cases z <;> cases p <;> cases y <;> cases x <;> cases h <;> cases c <;> rfl
end Go.Proofs.YtljjgakfnajifaaGreatDoor
namespace Go.Proofs.YtljjgakfnajifaaGreatDoor
open Go.RowKit
def tUp (v i : Nat) : Nat := Nat.add (Nat.mod (Nat.mul v 2) 256) i
def tDn (v i : Nat) : Nat := Nat.add (Nat.div v 2) (Nat.mul 128 i)
def tV (k v c : Nat) : Nat :=
  match k with
  | 0 => tUp v (Nat.div v 128) | 1 => tDn v (Nat.mod v 2) | 2 => tUp v c | 3 => tDn v c
  | 4 => tUp v 0 | 5 => tDn v (Nat.div v 128) | 6 => tUp v 1 | _ => tDn v 0
def tO (k v : Nat) : Nat :=
  match k with
  | 0 => Nat.div v 128 | 1 => Nat.mod v 2 | 2 => Nat.div v 128 | 3 => Nat.mod v 2
  | 4 => Nat.div v 128 | 5 => Nat.mod v 2 | 6 => Nat.div v 128 | _ => Nat.mod v 2
def tSaid (r : Nat) (c : Bool) : Nat := nByte (nS r) (nZ r) (nBit 32 r) false (nBit 8 r) (nPar r) false c
def tRotF (k v c : Nat) : Nat := tSaid (tV k v c) (Nat.beq (tO k v) 1)
def tQuickF (k v c f : Nat) : Nat := nByte (nBit 128 f) (nBit 64 f) (nBit 32 (tV k v c)) false (nBit 8 (tV k v c)) (nBit 4 f) false (Nat.beq (tO k v) 1)
def tOn (k v : Nat) : Bool := Nat.beq (Nat.mod (Nat.div v (Nat.pow 2 k)) 2) 1
def tBitF (k v f b : Nat) : Nat := nByte (and (tOn k v) (Nat.beq k 7)) (not (tOn k v)) (nBit 32 b) true (nBit 8 b) (not (tOn k v)) false (nBit 1 f)
def tPut (k v : Nat) (on : Bool) : Nat := Nat.add (Nat.sub v (Nat.mul (Nat.mod (Nat.div v (Nat.pow 2 k)) 2) (Nat.pow 2 k))) (cond on (Nat.pow 2 k) 0)
def tDigA (left : Bool) (a m : Nat) : Nat := Nat.add (Nat.mul (Nat.div a 16) 16) (cond left (Nat.div m 16) (Nat.mod m 16))
def tDigM (left : Bool) (a m : Nat) : Nat := cond left (Nat.add (Nat.mul (Nat.mod m 16) 16) (Nat.mod a 16)) (Nat.add (Nat.mul (Nat.mod a 16) 16) (Nat.div m 16))
def tDigF (left : Bool) (a m f : Nat) : Nat := tSaid (tDigA left a m) (nBit 1 f)
theorem tUp_lt (v i : Nat) (hi : i ≤ 1) : tUp v i < 256 := by show v * 2 % 256 + i < 256; omega
theorem tDn_lt (v i : Nat) (hv : v < 256) (hi : i ≤ 1) : tDn v i < 256 := by show v / 2 + 128 * i < 256; omega
theorem tO_le (k v : Nat) (hv : v < 256) : tO k v ≤ 1 := by
  have h1 : Nat.div v 128 ≤ 1 := by show v / 128 ≤ 1; omega
  have h2 : Nat.mod v 2 ≤ 1 := by show v % 2 ≤ 1; omega
  unfold tO; split <;> assumption
theorem tV_lt (k v c : Nat) (hv : v < 256) (hc : c ≤ 1) : tV k v c < 256 := by
  have h1 : Nat.div v 128 ≤ 1 := by show v / 128 ≤ 1; omega
  have h2 : Nat.mod v 2 ≤ 1 := by show v % 2 ≤ 1; omega
  unfold tV; split <;> first | exact tUp_lt _ _ (by assumption) | exact tUp_lt _ _ (by omega) | exact tDn_lt _ _ hv (by assumption) | exact tDn_lt _ _ hv (by omega)
theorem tSaid_lt (r : Nat) (c : Bool) : tSaid r c < 256 := nByte_lt _ _ _ _ _ _ _ _
theorem tRotF_lt (k v c : Nat) : tRotF k v c < 256 := nByte_lt _ _ _ _ _ _ _ _
theorem tQuickF_lt (k v c f : Nat) : tQuickF k v c f < 256 := nByte_lt _ _ _ _ _ _ _ _
theorem tBitF_lt (k v f b : Nat) : tBitF k v f b < 256 := nByte_lt _ _ _ _ _ _ _ _
theorem tDigA_lt (left : Bool) (a m : Nat) (ha : a < 256) (hm : m < 256) : tDigA left a m < 256 := by
  cases left
  · show a / 16 * 16 + m % 16 < 256; omega
  · show a / 16 * 16 + m / 16 < 256; omega
theorem tDigM_lt (left : Bool) (a m : Nat) (_ha : a < 256) (hm : m < 256) : tDigM left a m < 256 := by
  cases left
  · show a % 16 * 16 + m / 16 < 256; omega
  · show m % 16 * 16 + a % 16 < 256; omega
theorem tPut_lt (k v : Nat) (on : Bool) (hk : k < 8) (hv : v < 256) : tPut k v on < 256 := by
  have h := allB_at2 (n := 8) (m := 256) (p := fun k v => and (Nat.blt (tPut k v true) 256) (Nat.blt (tPut k v false) 256)) (by decide +kernel) k v hk hv
  rw [Bool.and_eq_true, Nat.blt_eq, Nat.blt_eq] at h
  cases on
  · exact h.2
  · exact h.1
theorem up_bits (v i : Nat) (hv : v < 256) (hi : i ≤ 1) : (v * 2 % 256) ||| i = tUp v i :=
  Nat.eq_of_beq_eq_true (allB_at2 (n := 256) (m := 2) (p := fun v i => Nat.beq (Nat.lor (Nat.mod (Nat.mul v 2) 256) i) (tUp v i)) (by decide +kernel) v i hv (by omega))
theorem dn_bits (v i : Nat) (hv : v < 256) (hi : i ≤ 1) : (i * 128) ||| (v / 2) = tDn v i :=
  Nat.eq_of_beq_eq_true (allB_at2 (n := 256) (m := 2) (p := fun v i => Nat.beq (Nat.lor (Nat.mul i 128) (Nat.div v 2)) (tDn v i)) (by decide +kernel) v i hv (by omega))
theorem said_bits (r o s : Nat) (ho : o ≤ 1) (hs : nBitsF r false = s) : s ||| o = tSaid r (Nat.beq o 1) := by
  rw [← hs]
  unfold tSaid nBitsF
  have h : o = 0 ∨ o = 1 := by omega
  generalize nS r = s; generalize nZ r = z; generalize nBit 32 r = y; generalize nBit 8 r = x; generalize nPar r = p
  rcases h with rfl | rfl <;> cases s <;> cases z <;> cases y <;> cases x <;> cases p <;> rfl
theorem one_bit (f : Nat) (h : f < 256) : f &&& 1 = cond (nBit 1 f) 1 0 :=
  Nat.eq_of_beq_eq_true (allB_at (show allB 256 (fun v => Nat.beq (Nat.land v 1) (cond (nBit 1 v) 1 0)) = true by decide +kernel) f h)
theorem one_mod (f c : Nat) (hc : f % 2 = c) : nBit 1 f = Nat.beq c 1 := by
  unfold nBit
  rw [← hc]
  show Nat.beq (f / 1 % 2) 1 = _
  rw [Nat.div_one]
theorem tstray_bits (v : Nat) (h : v < 256) : v &&& 40 = nByte false false (nBit 32 v) false (nBit 8 v) false false false :=
  Nat.eq_of_beq_eq_true (allB_at (show allB 256 (fun v => Nat.beq (Nat.land v 40) (nByte false false (nBit 32 v) false (nBit 8 v) false false false)) = true by decide +kernel) v h)
theorem tkept_bits (v : Nat) (h : v < 256) : v &&& 196 = nByte (nBit 128 v) (nBit 64 v) false false false (nBit 4 v) false false :=
  Nat.eq_of_beq_eq_true (allB_at (show allB 256 (fun v => Nat.beq (Nat.land v 196) (nByte (nBit 128 v) (nBit 64 v) false false false (nBit 4 v) false false)) = true by decide +kernel) v h)
theorem nByte_one (s z y h x p n c : Bool) : nByte s z y h x p n c &&& 1 = cond c 1 0 := by
  cases s <;> cases z <;> cases y <;> cases h <;> cases x <;> cases p <;> cases n <;> cases c <;> rfl
theorem rot_one (k v c g : Nat) (hv : v < 256) (hg : tRotF k v c = g) : g &&& 1 = tO k v := by
  rw [← hg]
  unfold tRotF tSaid
  rw [nByte_one]
  have h := tO_le k v hv
  have h2 : tO k v = 0 ∨ tO k v = 1 := by omega
  rcases h2 with e | e <;> rw [e] <;> rfl
theorem quick_bits (k v c f r o g : Nat) (hv : v < 256) (hf : f < 256) (hc : c ≤ 1) (hr : tV k v c = r) (ho : tO k v = o) (hg : tQuickF k v c f = g) : ((f &&& 196) ||| (r &&& 40)) ||| o = g := by
  have r1 : r < 256 := hr ▸ tV_lt k v c hv hc
  have o1 : o ≤ 1 := ho ▸ tO_le k v hv
  rw [tkept_bits f hf, tstray_bits r r1, ← hg]
  unfold tQuickF
  rw [hr, ho]
  have h2 : o = 0 ∨ o = 1 := by omega
  generalize nBit 128 f = s; generalize nBit 64 f = z; generalize nBit 4 f = p; generalize nBit 32 r = y; generalize nBit 8 r = x
  rcases h2 with rfl | rfl <;> cases s <;> cases z <;> cases p <;> cases y <;> cases x <;> rfl
theorem asked_bits (k v x : Nat) (hk : k < 8) (hv : v < 256) (hx : v &&& 2 ^ k = x) : x &&& 128 = cond (and (tOn k v) (Nat.beq k 7)) 128 0 ∧ Nat.beq x 0 = not (tOn k v) := by
  have h := allB_at2 (n := 8) (m := 256) (p := fun k v => and (Nat.beq (Nat.land (Nat.land v (Nat.pow 2 k)) 128) (cond (and (tOn k v) (Nat.beq k 7)) 128 0)) (xor (Nat.beq (Nat.land v (Nat.pow 2 k)) 0) (tOn k v))) (by decide +kernel) k v hk hv
  rw [Bool.and_eq_true] at h
  rw [← hx]
  refine ⟨Nat.eq_of_beq_eq_true h.1, ?_⟩
  have h2 := h.2
  have e : Nat.land v (Nat.pow 2 k) = v &&& 2 ^ k := rfl
  rw [e] at h2
  revert h2
  cases Nat.beq (v &&& 2 ^ k) 0 <;> cases tOn k v <;> simp
theorem bit_bits (k v f b x g : Nat) (z : Nat) (hk : k < 8) (hv : v < 256) (hf : f < 256) (hb : b < 256) (hx : v &&& 2 ^ k = x) (hz : cond (Nat.beq x 0) 68 0 = z) (hg : tBitF k v f b = g) :
    ((((x &&& 128) ||| z) ||| 16) ||| (f &&& 1)) ||| (b &&& 40) = g := by
  have ⟨h1, h2⟩ := asked_bits k v x hk hv hx
  rw [h1, ← hz, h2, one_bit f hf, tstray_bits b hb, ← hg]
  unfold tBitF
  generalize tOn k v = on; generalize Nat.beq k 7 = s; generalize nBit 1 f = c; generalize nBit 32 b = y; generalize nBit 8 b = x
  cases on <;> cases s <;> cases c <;> cases y <;> cases x <;> rfl
theorem put_bits (k v : Nat) (on : Bool) (m : Nat) (hk : k < 8) (hv : v < 256) (hm : 2 ^ k = m) : (v &&& (255 - m)) ||| cond on m 0 = tPut k v on := by
  have h := allB_at2 (n := 8) (m := 256) (p := fun k v => and (Nat.beq (Nat.lor (Nat.land v (Nat.sub 255 (Nat.pow 2 k))) (Nat.pow 2 k)) (tPut k v true)) (Nat.beq (Nat.lor (Nat.land v (Nat.sub 255 (Nat.pow 2 k))) 0) (tPut k v false))) (by decide +kernel) k v hk hv
  rw [Bool.and_eq_true] at h
  rw [← hm]
  cases on
  · exact Nat.eq_of_beq_eq_true h.2
  · exact Nat.eq_of_beq_eq_true h.1
theorem upper_bits (a : Nat) (h : a < 256) : a &&& (255 - 15) = a / 16 * 16 :=
  Nat.eq_of_beq_eq_true (allB_at (show allB 256 (fun a => Nat.beq (Nat.land a (Nat.sub 255 15)) (Nat.mul (Nat.div a 16) 16)) = true by decide +kernel) a h)
theorem low_bits (a : Nat) (h : a < 256) : a &&& 15 = a % 16 :=
  Nat.eq_of_beq_eq_true (allB_at (show allB 256 (fun a => Nat.beq (Nat.land a 15) (Nat.mod a 16)) = true by decide +kernel) a h)
theorem two_digits (a b : Nat) (ha : a < 16) (hb : b < 16) : (a * 16) ||| b = a * 16 + b :=
  Nat.eq_of_beq_eq_true (allB_at2 (n := 16) (m := 16) (p := fun a b => Nat.beq (Nat.lor (Nat.mul a 16) b) (Nat.add (Nat.mul a 16) b)) (by decide +kernel) a b ha hb)
theorem put_at_bit (k v : Nat) (on : Bool) (hk : k < 8) (hv : v < 256) : tOn k (tPut k v on) = on := by
  have h := allB_at2 (n := 8) (m := 256) (p := fun k v => and (tOn k (tPut k v true)) (not (tOn k (tPut k v false)))) (by decide +kernel) k v hk hv
  rw [Bool.and_eq_true, Bool.not_eq_true'] at h
  cases on
  · exact h.2
  · exact h.1
theorem put_twice (k v : Nat) (on : Bool) (hk : k < 8) (hv : v < 256) : tPut k (tPut k v (!on)) on = tPut k v on := by
  have h := allB_at2 (n := 8) (m := 256) (p := fun k v => and (Nat.beq (tPut k (tPut k v false) true) (tPut k v true)) (Nat.beq (tPut k (tPut k v true) false) (tPut k v false))) (by decide +kernel) k v hk hv
  rw [Bool.and_eq_true] at h
  cases on
  · exact Nat.eq_of_beq_eq_true h.2
  · exact Nat.eq_of_beq_eq_true h.1
end Go.Proofs.YtljjgakfnajifaaGreatDoor
namespace Go.Proofs.YtljjgakfnajifaaGreatDoor
open Go.RowKit
def rYX (n : Nat) : Nat := Nat.add (cond (nBit 2 n) 32 0) (cond (nBit 8 n) 8 0)
def rSum (a v : Nat) : Nat := Nat.mod (Nat.add a v) 256
def rLoad (a v f : Nat) (p : Bool) : Nat := nByte (nBit 128 f) (nBit 64 f) (nBit 2 (rSum a v)) false (nBit 8 (rSum a v)) p false (nBit 1 f)
def rLess (m : Nat) (h : Bool) : Nat := cond h (Nat.mod (Nat.add m 255) 256) m
def rSeek (g n f : Nat) (p : Bool) : Nat := nByte (nBit 128 g) (nBit 64 g) (nBit 2 n) (nBit 16 g) (nBit 8 n) p true (nBit 1 f)
def rOn (g : Nat) (p : Bool) : Bool := and p (not (nBit 64 g))
def rSeekF (a v f : Nat) (p : Bool) : Nat := rSeek (nSubF a v 0) (rLess (nSubV a v 0) (nBit 16 (nSubF a v 0))) f p
def rSeekOn (a v : Nat) (p : Bool) : Bool := and p (not (Nat.beq a v))
def rPort (v m b : Nat) : Nat := nByte (nS b) (nZ b) (nBit 32 b) (Nat.ble 256 (Nat.add v m)) (nBit 8 b) (nPar (Nat.xor b (Nat.mod (Nat.add v m) 8))) (nBit 128 v) (Nat.ble 256 (Nat.add v m))
theorem rYX_lt (n : Nat) : rYX n < 256 := by unfold rYX; cases nBit 2 n <;> cases nBit 8 n <;> decide
theorem rSum_lt (a v : Nat) : rSum a v < 256 := Nat.mod_lt _ (by omega)
theorem rLoad_lt (a v f : Nat) (p : Bool) : rLoad a v f p < 256 := nByte_lt _ _ _ _ _ _ _ _
theorem rSeek_lt (g n f : Nat) (p : Bool) : rSeek g n f p < 256 := nByte_lt _ _ _ _ _ _ _ _
theorem rPort_lt (v m b : Nat) : rPort v m b < 256 := nByte_lt _ _ _ _ _ _ _ _
theorem rLess_lt (m : Nat) (h : Bool) (hm : m < 256) : rLess m h < 256 := by cases h; exact hm; exact Nat.mod_lt _ (by omega)
theorem nBit_byte (s z y h x p n c : Bool) : nBit 128 (nByte s z y h x p n c) = s ∧ nBit 64 (nByte s z y h x p n c) = z ∧ nBit 16 (nByte s z y h x p n c) = h ∧ nBit 4 (nByte s z y h x p n c) = p ∧ nBit 2 (nByte s z y h x p n c) = n ∧ nBit 1 (nByte s z y h x p n c) = c := by
  revert s z y h x p n c; decide +kernel
theorem and_byte (s z y h x p n c : Bool) : nByte s z y h x p n c &&& 64 = cond z 64 0 ∧ nByte s z y h x p n c &&& 4 = cond p 4 0 ∧ nByte s z y h x p n c &&& 16 = cond h 16 0 ∧ nByte s z y h x p n c &&& 1 = cond c 1 0 ∧ nByte s z y h x p n c &&& 2 = cond n 2 0 ∧ nByte s z y h x p n c &&& 18 = (cond h 16 0) + (cond n 2 0) ∧ nByte s z y h x p n c &&& 193 = cond s 128 0 + (cond z 64 0 + cond c 1 0) ∧ nByte s z y h x p n c &&& 68 = cond z 64 0 + cond p 4 0 := by
  revert s z y h x p n c; decide +kernel
theorem and_1 (f : Nat) (h : f < 256) : f &&& 1 = cond (nBit 1 f) 1 0 := Nat.eq_of_beq_eq_true (allB_at (show allB 256 (fun f => Nat.beq (Nat.land f 1) (cond (nBit 1 f) 1 0)) = true by decide +kernel) f h)
theorem and_193 (f : Nat) (h : f < 256) : f &&& 193 = cond (nBit 128 f) 128 0 + (cond (nBit 64 f) 64 0 + cond (nBit 1 f) 1 0) := Nat.eq_of_beq_eq_true (allB_at (show allB 256 (fun f => Nat.beq (Nat.land f 193) (Nat.add (cond (nBit 128 f) 128 0) (Nat.add (cond (nBit 64 f) 64 0) (cond (nBit 1 f) 1 0)))) = true by decide +kernel) f h)
theorem and_16 (f : Nat) (h : f < 256) : f &&& 16 = cond (nBit 16 f) 16 0 := Nat.eq_of_beq_eq_true (allB_at (show allB 256 (fun f => Nat.beq (Nat.land f 16) (cond (nBit 16 f) 16 0)) = true by decide +kernel) f h)
theorem and_128 (f : Nat) (h : f < 256) : f &&& 128 = cond (nBit 128 f) 128 0 := Nat.eq_of_beq_eq_true (allB_at (show allB 256 (fun f => Nat.beq (Nat.land f 128) (cond (nBit 128 f) 128 0)) = true by decide +kernel) f h)
theorem and_8 (f : Nat) (h : f < 256) : f &&& 8 = cond (nBit 8 f) 8 0 := Nat.eq_of_beq_eq_true (allB_at (show allB 256 (fun f => Nat.beq (Nat.land f 8) (cond (nBit 8 f) 8 0)) = true by decide +kernel) f h)
theorem and_2 (f : Nat) (h : f < 256) : f &&& 2 = cond (nBit 2 f) 2 0 := Nat.eq_of_beq_eq_true (allB_at (show allB 256 (fun f => Nat.beq (Nat.land f 2) (cond (nBit 2 f) 2 0)) = true by decide +kernel) f h)
theorem stray_is (n : Nat) (h : n < 256) : ((n &&& 2) * 16) ||| (n &&& 8) = rYX n := by
  rw [and_2 n h, and_8 n h]; unfold rYX
  cases nBit 2 n <;> cases nBit 8 n <;> rfl
theorem load_is (f n : Nat) (p : Bool) (hf : f < 256) : ((f &&& 193) ||| cond p 4 0) ||| rYX n = nByte (nBit 128 f) (nBit 64 f) (nBit 2 n) false (nBit 8 n) p false (nBit 1 f) := by
  rw [and_193 f hf]; unfold rYX
  cases nBit 128 f <;> cases nBit 64 f <;> cases nBit 1 f <;> cases nBit 2 n <;> cases nBit 8 n <;> cases p <;> rfl
theorem and_210 (f : Nat) (h : f < 256) : f &&& 210 = cond (nBit 128 f) 128 0 + (cond (nBit 64 f) 64 0 + (cond (nBit 16 f) 16 0 + cond (nBit 2 f) 2 0)) := Nat.eq_of_beq_eq_true (allB_at (show allB 256 (fun f => Nat.beq (Nat.land f 210) (Nat.add (cond (nBit 128 f) 128 0) (Nat.add (cond (nBit 64 f) 64 0) (Nat.add (cond (nBit 16 f) 16 0) (cond (nBit 2 f) 2 0))))) = true by decide +kernel) f h)
theorem seek_is (g n f : Nat) (p : Bool) (hg : g < 256) (hf : f < 256) (hN : nBit 2 g = true) : (((g &&& 210) ||| (f &&& 1)) ||| cond p 4 0) ||| rYX n = rSeek g n f p := by
  rw [and_210 g hg, and_1 f hf, hN]; unfold rYX rSeek
  cases nBit 128 g <;> cases nBit 64 g <;> cases nBit 16 g <;> cases nBit 1 f <;> cases nBit 2 n <;> cases nBit 8 n <;> cases p <;> rfl
theorem half_is (g : Nat) (hg : g < 256) : ((g &&& 210) &&& 16) / 16 = cond (nBit 16 g) 1 0 := Nat.eq_of_beq_eq_true (allB_at (show allB 256 (fun f => Nat.beq (Nat.div (Nat.land (Nat.land f 210) 16) 16) (cond (nBit 16 f) 1 0)) = true by decide +kernel) g hg)
theorem on_is (g n f : Nat) (p : Bool) : ((rSeek g n f p &&& 68 : Nat) : Int) = 4 ↔ rOn g p = true := by
  rw [show rSeek g n f p &&& 68 = _ from (and_byte _ _ _ _ _ _ _ _).2.2.2.2.2.2.2]
  unfold rOn
  cases nBit 64 g <;> cases p <;> decide
theorem port_is (v m b : Nat) (hv : v < 256) (k e : Bool) (hk : Nat.ble 256 (Nat.add v m) = k) (he : nPar (Nat.xor b (Nat.mod (Nat.add v m) 8)) = e) : (((nShape b ||| ((v &&& 128) / 64)) ||| cond k 17 0) ||| cond e 4 0) = rPort v m b := by
  rw [and_128 v hv]; unfold rPort nShape
  rw [hk, he]
  cases nBit 128 v <;> cases nS b <;> cases nZ b <;> cases nBit 32 b <;> cases nBit 8 b <;> cases k <;> cases e <;> rfl
theorem sub_n (a v c : Nat) : nBit 2 (nSubF a v c) = true := (nBit_byte _ _ _ _ _ _ _ _).2.2.2.2.1
theorem sub_z (a v : Nat) (ha : a < 256) (hv : v < 256) : nBit 64 (nSubF a v 0) = Nat.beq a v := by
  rw [show nBit 64 (nSubF a v 0) = nZ (nSubV a v 0) from (nBit_byte _ _ _ _ _ _ _ _).2.1]
  unfold nZ
  rw [Bool.eq_iff_iff, Nat.beq_eq, Nat.beq_eq]
  show (a + 512 - (v + 0)) % 256 = 0 ↔ _
  omega
theorem rOn_is (a v : Nat) (p : Bool) (ha : a < 256) (hv : v < 256) : rOn (nSubF a v 0) p = rSeekOn a v p := by unfold rOn rSeekOn; rw [sub_z a v ha hv]
theorem rSeekF_lt (a v f : Nat) (p : Bool) : rSeekF a v f p < 256 := rSeek_lt _ _ _ _
theorem less_is (m : Nat) (h : Bool) (hm : m < 256) : ((m : Int) - ((cond h 1 0 : Nat) : Int)) % 256 = ((rLess m h : Nat) : Int) := by
  cases h
  · show ((m : Int) - 0) % 256 = (m : Int); omega
  · show ((m : Int) - 1) % 256 = (((m + 255) % 256 : Nat) : Int); omega
end Go.Proofs.YtljjgakfnajifaaGreatDoor
namespace Go.Proofs.YtljjgakfnajifaaGreatDoor
open Go.RowKit
def askBit : Nat → Nat
  | 0 => 64
  | 1 => 1
  | 2 => 4
  | _ => 128
def rgMet (f k : Nat) : Bool := nBit (askBit (k / 2)) f == Nat.beq (k % 2) 1
end Go.Proofs.YtljjgakfnajifaaGreatDoor
namespace Go.Proofs.YtljjgakfnajifaaGreatDoor
open Go.RowKit
structure Cs where
  r : Rg
  px : Nat
  u : U
namespace Cs
abbrev m (s : Cs) : Nat → Nat := s.u.m
abbrev rd (s : Cs) (a : Nat) : Cs := { s with u := s.u.rd a }
abbrev wr (s : Cs) (a v : Nat) : Cs := { s with u := s.u.wr a v }
abbrev ip (s : Cs) (p t : Nat) : Cs := { s with u := s.u.ip p t }
abbrev ipV (s : Cs) (p t : Nat) : Nat := s.u.ipV p t
abbrev op (s : Cs) (p v t : Nat) : Cs := { s with u := s.u.op p v t }
abbrev setR (s : Cs) (r : Rg) : Cs := { s with r := r }
abbrev setA (s : Cs) (v : Nat) : Cs := { s with r := { s.r with a := v } }
abbrev setF (s : Cs) (v : Nat) : Cs := { s with r := { s.r with f := v } }
abbrev setB (s : Cs) (v : Nat) : Cs := { s with r := { s.r with b := v } }
abbrev setSP (s : Cs) (v : Nat) : Cs := { s with r := { s.r with sp := v } }
abbrev setPC (s : Cs) (v : Nat) : Cs := { s with r := { s.r with pc := v } }
abbrev setWZ (s : Cs) (v : Nat) : Cs := { s with r := { s.r with wz := v } }
abbrev setI (s : Cs) (v : Nat) : Cs := { s with r := { s.r with i := v } }
abbrev setRR (s : Cs) (v : Nat) : Cs := { s with r := { s.r with r := v } }
abbrev setIM (s : Cs) (v : Nat) : Cs := { s with r := { s.r with im := v } }
abbrev setPX (s : Cs) (v : Nat) : Cs := { s with r := { s.r with px := v } }
abbrev setQ1 (s : Cs) (v : Bool) : Cs := { s with r := { s.r with q1 := v } }
abbrev setQ2 (s : Cs) (v : Bool) : Cs := { s with r := { s.r with q2 := v } }
abbrev setHT (s : Cs) (v : Bool) : Cs := { s with r := { s.r with ht := v } }
abbrev setDL (s : Cs) (v : Bool) : Cs := { s with r := { s.r with dl := v } }
abbrev setD (s : Cs) (v : Nat) : Cs := { s with r := { s.r with d := v } }
abbrev setE (s : Cs) (v : Nat) : Cs := { s with r := { s.r with e := v } }
abbrev setH (s : Cs) (v : Nat) : Cs := { s with r := { s.r with h := v } }
abbrev setL (s : Cs) (v : Nat) : Cs := { s with r := { s.r with l := v } }
abbrev ahead (s : Cs) (v : Nat) : Cs := { s with px := v }
def tick (s : Cs) : Cs := { s with r := s.r.tick }
def nextV (s : Cs) : Nat := s.m s.r.pc
def next (s : Cs) : Cs := (s.rd s.r.pc).setPC (up1 s.r.pc)
def fetch (s : Cs) : Cs := s.next.tick
def numV (s : Cs) (a : Nat) : Nat := s.m (up1 a) * 256 + s.m a
def num (s : Cs) (a : Nat) : Cs := (s.rd a).rd (up1 a)
def nextNumV (s : Cs) : Nat := s.numV s.r.pc
def nextNum (s : Cs) : Cs := (s.num s.r.pc).setPC ((s.r.pc + 2) % 65536)
def setNum (s : Cs) (a v : Nat) : Cs := (s.wr a (v % 256)).wr (up1 a) (wHigh v)
def push (s : Cs) (v : Nat) : Cs := (((s.setSP (dn1 s.r.sp)).wr (dn1 s.r.sp) (wHigh v)).setSP (dn1 (dn1 s.r.sp))).wr (dn1 (dn1 s.r.sp)) (v % 256)
def popV (s : Cs) : Nat := s.numV s.r.sp
def pop (s : Cs) : Cs := (s.num s.r.sp).setSP ((s.r.sp + 2) % 65536)
def one (s : Cs) (n : Int) : Nat := s.r.one n s.px
def setOne (s : Cs) (n : Int) (v : Nat) : Cs := { s with r := s.r.setOne n s.px v }
def own (s : Cs) (n : Int) : Nat := s.r.one n 0
def setOwn (s : Cs) (n : Int) (v : Nat) : Cs := { s with r := s.r.setOne n 0 v }
def stands (s : Cs) (n : Int) : Int := if n = 2 then rgIdx s.px else n
def pair (s : Cs) (n : Int) : Nat := s.r.pair (s.stands n)
def setPair (s : Cs) (n : Int) (v : Nat) : Cs := { s with r := s.r.setPair (s.stands n) v }
def pointV (s : Cs) : Nat := if s.px = 0 then s.pair 2 else wMove (s.pair 2) s.nextV
def point (s : Cs) : Cs := if s.px = 0 then s else s.next.setWZ (wMove (s.pair 2) s.nextV)
def either (s : Cs) (k j : Nat) : Nat := if s.px = 0 then k else j
def operV (s : Cs) (n : Int) : Nat := if n = 6 then s.m s.pointV else s.one n
def oper (s : Cs) (n : Int) : Cs := if n = 6 then s.point.rd s.pointV else s
def operC (s : Cs) (n : Int) : Nat := if n = 6 then s.either 7 15 else 4
def goTo (s : Cs) (a : Nat) : Cs := (s.setPC a).setWZ a
def start (s : Cs) (a : Nat) : Cs := (s.push s.r.pc).goTo a
def back (s : Cs) : Cs := s.pop.goTo s.popV
-- behind CB
def changedV (s : Cs) (x y v : Nat) : Nat := if x = 0 then tV y v (s.r.f % 2) else tPut y v (Nat.beq x 3)
def changed (s : Cs) (x y v : Nat) : Cs := if x = 0 then s.setF (tRotF y v (s.r.f % 2)) else s
def bitsAt (s : Cs) (x y z a : Nat) : Cs :=
  if x = 1 then (s.rd a).setF (tBitF y (s.m a) s.r.f (wHigh s.r.wz))
  else (((s.rd a).changed x y (s.m a)).wr a (s.changedV x y (s.m a))).setOwn z (s.changedV x y (s.m a))
def bitsReg (s : Cs) (x y z : Nat) : Cs :=
  if x = 1 then s.setF (tBitF y (s.one z) s.r.f (s.one z))
  else (s.changed x y (s.one z)).setOne z (s.changedV x y (s.one z))
def bitsC (x k : Nat) : Nat := if x = 1 then k - 3 else k
-- the plain ones
def hop (s : Cs) (met : Bool) : Cs := cond met (s.next.goTo (wMove (up1 s.r.pc) s.nextV)) s.next
def addPair (s : Cs) (n : Int) : Cs :=
  ((s.setPair 2 (wAddV (s.pair 2) (s.pair n) 0)).setF (wAddF (s.pair 2) (s.pair n) s.r.f)).setWZ (up1 (s.pair 2))
def countV (dec : Bool) (v : Nat) : Nat := cond dec (nSubV v 1 0) (nAddV v 1 0)
def countF (dec : Bool) (v f : Nat) : Nat := cond dec (nKeep (nSubF v 1 0) f) (nKeep (nAddF v 1 0) f)
def count (s : Cs) (n : Int) (dec : Bool) : Cs :=
  if n = 6 then ((s.point.rd s.pointV).wr s.pointV (countV dec (s.m s.pointV))).setF (countF dec (s.m s.pointV) s.r.f)
  else (s.setOne n (countV dec (s.one n))).setF (countF dec (s.one n) s.r.f)
def quickA (y : Nat) (a f : Nat) : Nat := if y < 4 then tV y a (f % 2) else if y = 4 then nDaaV a f else flipV ((y : Int) - 5) a
def quickF (y : Nat) (a f : Nat) : Nat := if y < 4 then tQuickF y a (f % 2) f else if y = 4 then nDaaF a f else flipF ((y : Int) - 5) a f
def quick (s : Cs) (y : Nat) : Cs := (s.setA (quickA y s.r.a s.r.f)).setF (quickF y s.r.a s.r.f)
def sum (s : Cs) (k v : Nat) : Cs := (s.setA (nDoV k s.r.a v s.r.f)).setF (nDoF k s.r.a v s.r.f)
def move (s : Cs) (y z : Nat) : Cs :=
  if y = 6 then (if z = 6 then s.setHT true else s.point.wr s.pointV (s.own z))
  else if z = 6 then (s.point.rd s.pointV).setOwn y (s.m s.pointV) else s.setOne y (s.one z)
def moveC (s : Cs) (y z : Nat) : Nat := if y = 6 then (if z = 6 then 4 else s.either 7 15) else if z = 6 then s.either 7 15 else 4
def moveNext (s : Cs) (y : Nat) : Cs := if y = 6 then s.point.next.wr s.pointV s.point.nextV else s.next.setOne y s.nextV
def moveNextC (s : Cs) (y : Nat) : Nat := if y = 6 then s.either 10 15 else 7
def moveA (s : Cs) (q a : Nat) : Cs := if q = 0 then (s.wr a s.r.a).setWZ (s.r.a * 256 + up1 a % 256) else ((s.rd a).setA (s.m a)).setWZ (up1 a)
def movePair (s : Cs) (q : Nat) (n : Int) : Cs :=
  if q = 0 then (s.nextNum.setWZ (up1 s.nextNumV)).setNum s.nextNumV (s.pair n)
  else ((s.nextNum.setWZ (up1 s.nextNumV)).num s.nextNumV).setPair n (s.numV s.nextNumV)
def stacked (p : Nat) : Int := if p = 3 then 4 else p
def backIf (s : Cs) (met : Bool) : Cs := cond met s.back s
def jumpTo (s : Cs) (met : Bool) : Cs := cond met ((s.nextNum.setWZ s.nextNumV).setPC s.nextNumV) (s.nextNum.setWZ s.nextNumV)
def callTo (s : Cs) (met : Bool) : Cs := cond met ((s.nextNum.setWZ s.nextNumV).start s.nextNumV) (s.nextNum.setWZ s.nextNumV)
def outNext (s : Cs) : Cs := (s.next.op (s.r.a * 256 + s.nextV) s.r.a 8).setWZ (s.r.a * 256 + (s.nextV + 1) % 256)
def inNext (s : Cs) : Cs := ((s.next.ip (s.r.a * 256 + s.nextV) 8).setA (s.next.ipV (s.r.a * 256 + s.nextV) 8)).setWZ (up1 (s.r.a * 256 + s.nextV))
def swapTop (s : Cs) : Cs := ((((s.num s.r.sp).setWZ s.popV).setNum s.r.sp (s.pair 2))).setPair 2 s.popV
def swapDE (s : Cs) : Cs := { s with r := { s.r with d := s.r.h, e := s.r.l, h := s.r.d, l := s.r.e } }
-- behind ED
def inOne (s : Cs) (n : Int) : Cs :=
  (((s.ip (s.pair 0) 9).setF (nByte (nS (s.ipV (s.pair 0) 9)) (nZ (s.ipV (s.pair 0) 9)) (nBit 32 (s.ipV (s.pair 0) 9)) false (nBit 8 (s.ipV (s.pair 0) 9)) (nPar (s.ipV (s.pair 0) 9)) false (nBit 1 s.r.f))).setWZ (up1 (s.pair 0))).setOne n (s.ipV (s.pair 0) 9)
def outOne (s : Cs) (n : Int) : Cs := (s.op (s.pair 0) (s.one n) 9).setWZ (up1 (s.pair 0))
def carryPair (s : Cs) (adc : Bool) (n : Int) : Cs :=
  ((s.setPair 2 (cond adc (wAddV (s.pair 2) (s.pair n) (s.r.f % 2)) (wSubV (s.pair 2) (s.pair n) (s.r.f % 2)))).setF (cond adc (wAdcF (s.pair 2) (s.pair n) (s.r.f % 2)) (wSbcF (s.pair 2) (s.pair n) (s.r.f % 2)))).setWZ (up1 (s.pair 2))
def bring (s : Cs) (v : Nat) : Cs := (s.setA v).setF (nByte (nS v) (nZ v) (nBit 32 v) false (nBit 8 v) s.r.q2 false (nBit 1 s.r.f))
def digits (s : Cs) (left : Bool) : Cs :=
  ((((s.rd (s.pair 2)).wr (s.pair 2) (tDigM left s.r.a (s.m (s.pair 2)))).setA (tDigA left s.r.a (s.m (s.pair 2)))).setF (tDigF left s.r.a (s.m (s.pair 2)) s.r.f)).setWZ (up1 (s.pair 2))
def byN (back : Bool) : Nat := cond back 255 1
def shift (s : Cs) (n : Int) (b : Nat) : Cs := s.setPair n (wMove (s.pair n) b)
def less (s : Cs) : Cs := s.setPair 0 (dn1 (s.pair 0))
def lessV (s : Cs) : Nat := dn1 (s.pair 0)
def manyLoad (s : Cs) (b : Nat) : Cs :=
  (((((s.rd (s.pair 2)).wr (s.pair 1) (s.m (s.pair 2))).shift 2 b).shift 1 b).less).setF (rLoad s.r.a (s.m (s.pair 2)) s.r.f (decide (s.lessV ≠ 0)))
def manyLoadOn (s : Cs) : Bool := decide (s.lessV ≠ 0)
def manySeek (s : Cs) (b : Nat) : Cs :=
  (((((s.rd (s.pair 2)).shift 2 b)).setWZ (wMove s.r.wz b)).less).setF (rSeekF s.r.a (s.m (s.pair 2)) s.r.f (decide (s.lessV ≠ 0)))
def manySeekOn (s : Cs) : Bool := rSeekOn s.r.a (s.m (s.pair 2)) (decide (s.lessV ≠ 0))
def decB (s : Cs) : Nat := (s.r.b + 255) % 256
def manyIn (s : Cs) (b : Nat) : Cs :=
  ((((((s.setWZ (wMove (s.pair 0) b)).ip (s.pair 0) 13).wr (s.pair 2) (s.ipV (s.pair 0) 13)).setB s.decB).shift 2 b)).setF (rPort (s.ipV (s.pair 0) 13) ((s.r.c + b) % 256) s.decB)
def manyOut (s : Cs) (b : Nat) : Cs :=
  let t := ((s.rd (s.pair 2)).setB s.decB)
  let u := ((t.op (t.pair 0) (s.m (s.pair 2)) 13).shift 2 b).setWZ (wMove (t.pair 0) b)
  u.setF (rPort (s.m (s.pair 2)) u.r.l s.decB)
end Cs
namespace Cs
def hopC (met : Bool) (k : Nat) : Nat := cond met k (k - 5)
def starts (s : Cs) (y : Nat) : Cs :=
  if y = 0 then s else if y = 1 then s.setR (s.r.swap false) else if y = 2 then (s.setB s.decB).hop (decide (s.decB ≠ 0)) else if y = 3 then s.hop true else s.hop (rgMet s.r.f (y - 4))
def startsC (s : Cs) (y : Nat) : Nat :=
  if y = 0 then 4 else if y = 1 then 4 else if y = 2 then hopC (decide (s.decB ≠ 0)) 13 else if y = 3 then hopC true 12 else hopC (rgMet s.r.f (y - 4)) 12
def moveFar (s : Cs) (y : Nat) : Cs :=
  if y / 2 = 0 then s.moveA (y % 2) (s.pair 0) else if y / 2 = 1 then s.moveA (y % 2) (s.pair 1) else if y / 2 = 2 then s.movePair (y % 2) 2 else s.nextNum.moveA (y % 2) s.nextNumV
def moveFarC (y : Nat) : Nat := if y / 2 = 0 then 7 else if y / 2 = 1 then 7 else if y / 2 = 2 then 16 else 13
def countPair (s : Cs) (y : Nat) : Cs := if y % 2 = 0 then s.setPair (y / 2 : Nat) (up1 (s.pair (y / 2 : Nat))) else s.setPair (y / 2 : Nat) (dn1 (s.pair (y / 2 : Nat)))
def countC (s : Cs) (y : Nat) : Nat := if y = 6 then s.either 11 19 else 4
def plain0 (s : Cs) (y z : Nat) : Cs :=
  if z = 0 then s.starts y else if z = 1 then (if y % 2 = 0 then s.nextNum.setPair (y / 2 : Nat) s.nextNumV else s.addPair (y / 2 : Nat)) else if z = 2 then s.moveFar y else if z = 3 then s.countPair y
  else if z = 4 then s.count y false else if z = 5 then s.count y true else if z = 6 then s.moveNext y else s.quick y
def plain0C (s : Cs) (y z : Nat) : Nat :=
  if z = 0 then s.startsC y else if z = 1 then (if y % 2 = 0 then 10 else 11) else if z = 2 then moveFarC y else if z = 3 then 6
  else if z = 4 then s.countC y else if z = 5 then s.countC y else if z = 6 then s.moveNextC y else 4
def lastOdd (s : Cs) (p : Nat) : Cs := if p = 0 then s.back else if p = 1 then s.setR (s.r.swap true) else if p = 2 then s.setPC (s.pair 2) else s.setSP (s.pair 2)
def lastOddC (p : Nat) : Nat := if p = 0 then 10 else if p = 1 then 4 else if p = 2 then 4 else 6
def mixed (s : Cs) (y : Nat) : Cs :=
  if y = 0 then s.jumpTo true else if y = 2 then s.outNext else if y = 3 then s.inNext else if y = 4 then s.swapTop else if y = 5 then s.swapDE else if y = 6 then (s.setQ1 false).setQ2 false
  else ((s.setQ1 true).setQ2 true).setDL true
def mixedC (y : Nat) : Nat := if y = 0 then 10 else if y = 2 then 11 else if y = 3 then 11 else if y = 4 then 19 else 4
def plain3 (s : Cs) (y z : Nat) : Cs :=
  if z = 0 then s.backIf (rgMet s.r.f y) else if z = 1 then (if y % 2 = 0 then s.pop.setPair (stacked (y / 2)) s.popV else s.lastOdd (y / 2)) else if z = 2 then s.jumpTo (rgMet s.r.f y) else if z = 3 then s.mixed y
  else if z = 4 then s.callTo (rgMet s.r.f y) else if z = 5 then (if y % 2 = 0 then s.push (s.pair (stacked (y / 2))) else s.callTo true) else if z = 6 then s.next.sum y s.nextV else s.start (y * 8)
def plain3C (s : Cs) (y z : Nat) : Nat :=
  if z = 0 then cond (rgMet s.r.f y) 11 5 else if z = 1 then (if y % 2 = 0 then 10 else lastOddC (y / 2)) else if z = 2 then 10 else if z = 3 then mixedC y
  else if z = 4 then cond (rgMet s.r.f y) 17 10 else if z = 5 then (if y % 2 = 0 then 11 else 17) else if z = 6 then 7 else 11
def plain (s : Cs) (x y z : Nat) : Cs := if x = 0 then s.plain0 y z else if x = 1 then s.move y z else if x = 2 then (s.oper z).sum y (s.operV z) else s.plain3 y z
def plainC (s : Cs) (x y z : Nat) : Nat := if x = 0 then s.plain0C y z else if x = 1 then s.moveC y z else if x = 2 then s.operC z else s.plain3C y z
def modeV (y : Nat) : Nat := if y % 4 = 2 then 1 else if y % 4 = 3 then 2 else 0
def odd (s : Cs) (y : Nat) : Cs := if y = 0 then s.setI s.r.a else if y = 1 then s.setRR s.r.a else if y = 2 then s.bring s.r.i else if y = 3 then s.bring s.r.r else if y = 4 then s.digits false else if y = 5 then s.digits true else s
def oddC (y : Nat) : Nat := if y < 4 then 9 else if y < 6 then 18 else 8
def rareOne (s : Cs) (y z : Nat) : Cs :=
  if z = 0 then s.inOne y else if z = 1 then s.outOne y else if z = 2 then s.carryPair (decide (y % 2 ≠ 0)) (y / 2 : Nat) else if z = 3 then s.movePair (y % 2) (y / 2 : Nat)
  else if z = 4 then (s.setA (nSubV 0 s.r.a 0)).setF (nSubF 0 s.r.a 0) else if z = 5 then s.back.setQ1 s.r.q2 else if z = 6 then s.setIM (modeV y) else s.odd y
def rareOneC (y z : Nat) : Nat := if z = 0 then 12 else if z = 1 then 12 else if z = 2 then 15 else if z = 3 then 20 else if z = 4 then 8 else if z = 5 then 14 else if z = 6 then 8 else oddC y
def manyOne (s : Cs) (z b : Nat) : Cs := if z = 0 then s.manyLoad b else if z = 1 then s.manySeek b else if z = 2 then s.manyIn b else s.manyOut b
def manyOn (s : Cs) (z : Nat) : Bool := if z = 0 then s.manyLoadOn else if z = 1 then s.manySeekOn else decide (s.decB ≠ 0)
def again (s : Cs) (z : Nat) : Cs := if z < 2 then (s.setPC (dn1 (dn1 s.r.pc))).setWZ (up1 (dn1 (dn1 s.r.pc))) else s.setPC (dn1 (dn1 s.r.pc))
def goesOn (s : Cs) (y z : Nat) : Bool := decide (6 ≤ y) && s.manyOn z
def many (s : Cs) (y z : Nat) : Cs := cond (s.goesOn y z) ((s.manyOne z (byN (decide (y % 2 ≠ 0)))).again z) (s.manyOne z (byN (decide (y % 2 ≠ 0))))
def manyC (s : Cs) (y z : Nat) : Nat := cond (s.goesOn y z) 21 16
def rare (s : Cs) (x y z : Nat) : Cs := if x = 1 then s.rareOne y z else if x = 2 ∧ 4 ≤ y ∧ z < 4 then s.many y z else s
def rareC (s : Cs) (x y z : Nat) : Nat := if x = 1 then rareOneC y z else if x = 2 ∧ 4 ≤ y ∧ z < 4 then s.manyC y z else 8
def xOf (o : Nat) : Nat := o / 64
def yOf (o : Nat) : Nat := o / 8 % 8
def zOf (o : Nat) : Nat := o % 8
def onBits (s : Cs) : Cs :=
  if s.px = 0 then (if zOf s.nextV = 6 then s.fetch.bitsAt (xOf s.nextV) (yOf s.nextV) (zOf s.nextV) (s.fetch.pair 2) else s.fetch.bitsReg (xOf s.nextV) (yOf s.nextV) (zOf s.nextV))
  else s.point.next.bitsAt (xOf s.point.nextV) (yOf s.point.nextV) (zOf s.point.nextV) s.pointV
def onBitsC (s : Cs) : Nat :=
  if s.px = 0 then (if zOf s.nextV = 6 then bitsC (xOf s.nextV) 15 else 8) else bitsC (xOf s.point.nextV) 19
def perform (s : Cs) (o : Nat) : Cs :=
  if o = 221 then s.setPX o else if o = 253 then s.setPX o else if o = 237 then ((s.ahead 0).fetch).rare (xOf s.nextV) (yOf s.nextV) (zOf s.nextV) else if o = 203 then s.onBits else s.plain (xOf o) (yOf o) (zOf o)
def performC (s : Cs) (o : Nat) : Nat :=
  if o = 221 then 4 else if o = 253 then 4 else if o = 237 then ((s.ahead 0).fetch).rareC (xOf s.nextV) (yOf s.nextV) (zOf s.nextV) else if o = 203 then s.onBitsC else s.plainC (xOf o) (yOf o) (zOf o)
def begun (s : Cs) : Cs := ((s.setDL false).ahead s.r.px).setPX 0
def step (s : Cs) : Cs := cond s.r.ht s.tick (s.begun.fetch.perform s.begun.nextV)
def stepC (s : Cs) : Nat := cond s.r.ht 4 (s.begun.fetch.performC s.begun.nextV)
def lineCame (s : Cs) : Cs := if s.r.im = 2 then ((s.push s.r.pc).num (s.r.i * 256 + 255)).goTo ((s.push s.r.pc).numV (s.r.i * 256 + 255)) else s.start 56
def lineCameC (s : Cs) : Nat := if s.r.im = 2 then 19 else 13
def wake (s : Cs) : Cs := (s.setHT false).tick
def takes (s : Cs) (pause line : Bool) : Bool := and (Nat.beq s.r.px 0) (or pause (and line (and s.r.q1 (not s.r.dl))))
def inter (s : Cs) (pause line : Bool) : Cs := cond (s.takes pause line) (cond pause ((s.setQ1 false).wake.start 102) ((s.setQ1 false).setQ2 false).wake.lineCame) s
def interC (s : Cs) (pause line : Bool) : Nat := cond (s.takes pause line) (cond pause 11 s.lineCameC) 0
end Cs
end Go.Proofs.YtljjgakfnajifaaGreatDoor
namespace Go.Proofs.YtljjgakfnajifaaGreatDoor
open Go.RowKit
section
variable {P : Program} {C : World → Prop} {l : List Oper} {n g : Nat} {R : Exit → Act → World → Prop}
theorem wpAny_more {ops : Array Oper} : ∀ (f : Nat) (L : Array Bool) (a : Act) (w : World), wpAny P .any ops R f L a w → wpAny P .any ops R (f + 1) L a w
  | 0, _, _, _, h => ⟨fun _ => h.2, fun i hi => by rw [h.1] at hi; cases hi⟩
  | f + 1, _, _, _, h => ⟨h.1, fun i hi => wpOp_mono (fun a' w' h' => wpAny_more f _ a' w' h') (h.2 i hi)⟩
theorem wpAny_most {ops : Array Oper} (k : Nat) {f : Nat} {L : Array Bool} {a : Act} {w : World} (h : wpAny P .any ops R f L a w) : wpAny P .any ops R (k + f) L a w := by
  induction k with
  | zero => rwa [Nat.zero_add]
  | succ k ih => rw [show k + 1 + f = (k + f) + 1 by omega]; exact wpAny_more _ _ _ _ ih
def lowEdgesB (l : List Oper) (n : Nat) : Bool :=
  (List.range n).all fun k => match l[k]? with
    | none => false
    | some o => (o.after.all fun e => !Region.binds .any e || decide (e.on < k)) && (match o.guard with | none => true | some (j, _) => decide (j < n))
def tailOkB (l : List Oper) (n : Nat) : Bool :=
  decide (n < l.length) && Region.sinkB .any l.toArray n && Region.chainB .any l.toArray n && lowEdgesB l n &&
    Region.seqB .any l.toArray (l.length - n) n (List.replicate n true ++ List.replicate (l.length - n) false).toArray
theorem lowEdges_at (h : lowEdgesB l n = true) (k : Nat) (hk : k < n) : ∃ o, l[k]? = some o ∧ (∀ e ∈ o.after, Region.binds .any e = true → e.on < k) ∧ ∀ j b, o.guard = some (j, b) → j < n := by
  have h1 := List.all_eq_true.1 h k (List.mem_range.2 hk)
  cases ho : l[k]? with
  | none => rw [ho] at h1; cases h1
  | some o =>
    rw [ho] at h1
    simp only [Bool.and_eq_true] at h1
    refine ⟨o, rfl, fun e he hb => ?_, fun j b hg => ?_⟩
    · have h2 := (Array.all_eq_true_iff_forall_mem.1 h1.1) e he
      simpa [hb] using h2
    · have h2 := h1.2
      rw [hg] at h2
      simpa using h2
def Agree (n : Nat) (L L' : Array Bool) : Prop := L'.size = n ∧ ∀ j, j < n → L'.getD j true = L.getD j true
theorem Agree.low {L L' : Array Bool} (h : Agree n L L') (hL : n ≤ L.size) {j : Nat} (hj : j < n) : L'.getD j false = L.getD j false := by
  have h1 := h.2 j hj
  have h2 : j < L'.size := by rw [h.1]; exact hj
  have h3 : j < L.size := by omega
  simpa [h2, h3] using h1
theorem Agree.set {L L' : Array Bool} (h : Agree n L L') (hL : n ≤ L.size) (i : Nat) : Agree n (L.setIfInBounds i true) (L'.setIfInBounds i true) := by
  refine ⟨by simp [h.1], fun j hj => ?_⟩
  have h2 : j < L'.size := by rw [h.1]; exact hj
  have h3 : j < L.size := by omega
  have h1 := h.2 j hj
  by_cases hij : i = j
  · subst hij; simp [h2, h3]
  · rw [getD_set_ne true hij, getD_set_ne true hij]; exact h1
theorem take_at {i : Nat} (hi : i < n) : (l.take n).toArray[i]? = l.toArray[i]? := by simp [hi]
theorem head_ready {L L' : Array Bool} (inv : HeadInv .any l.toArray n L) (hn : n < l.length) (hA : Agree n L L') (hd : lowEdgesB l n = true) {i : Nat} (hi : i < n) :
    i ∈ Region.ready .any l.toArray L ↔ i ∈ Region.ready .any (l.take n).toArray L' := by
  have hL : n ≤ L.size := by rw [inv.size]; simp; omega
  obtain ⟨o, ho, hlow, _⟩ := lowEdges_at hd i hi
  rw [mem_ready, mem_ready, take_at hi, hA.2 i hi]
  refine and_congr_right fun _ => exists_congr fun o' => and_congr_right fun ho' => forall_congr' fun e => forall_congr' fun he => forall_congr' fun hb => ?_
  have e1 : o' = o := by
    have : l.toArray[i]? = some o := by simpa using ho
    exact Option.some.inj (ho'.symm.trans this)
  subst e1
  rw [hA.low hL (by have := hlow e he hb; omega)]
theorem some_ready {L : Array Bool} (inv : HeadInv .any l.toArray n L) (hn : n < l.length) (hd : lowEdgesB l n = true) : ∀ k, k < n → L.getD k true = false → ∃ i, i < n ∧ i ∈ Region.ready .any l.toArray L := by
  intro k
  induction k using Nat.strongRecOn with
  | _ k ih =>
    intro hk hun
    obtain ⟨o, ho, hlow, _⟩ := lowEdges_at hd k hk
    by_cases hall : ∀ e ∈ o.after, Region.binds .any e = true → L.getD e.on false = true
    · exact ⟨k, hk, mem_ready.2 ⟨hun, o, by simpa using ho, hall⟩⟩
    · simp only [Classical.not_forall] at hall
      obtain ⟨e, he, hb, hne⟩ := hall
      have hek := hlow e he hb
      have hsz : e.on < L.size := by rw [inv.size]; simp; omega
      exact ih e.on hek (by omega) (getD_in hsz (by simpa using hne))
theorem wpAny_of_head_quiet {Qn : Act → Prop} (hs : Region.sinkB .any l.toArray n = true) (hc : Region.chainB .any l.toArray n = true) (hd : lowEdgesB l n = true) (hn : n < l.length)
    (hQ : ∀ L a w, C w → HeadInv .any l.toArray n L → (∀ i, i < n → L.getD i true = true) → Qn a → wpAny P .any l.toArray R g L a w) :
    ∀ (f : Nat) (L L' : Array Bool) (a : Act) (w : World), HeadInv .any l.toArray n L → Agree n L L' → C w → wpAnyQ P .any (l.take n).toArray C Qn f L' a → wpAny P .any l.toArray R (f + g) L a w := by
  have hnone : ∀ {L L' : Array Bool}, HeadInv .any l.toArray n L → Agree n L L' → Region.ready .any (l.take n).toArray L' = [] → ∀ i, i < n → L.getD i true = true := by
    intro L L' inv hA hr i hi
    cases hu : L.getD i true with
    | true => rfl
    | false =>
      obtain ⟨j, hj, hjr⟩ := some_ready inv hn hd i hi hu
      rw [head_ready inv hn hA hd hj, hr] at hjr
      cases hjr
  intro f
  induction f with
  | zero =>
    intro L L' a w inv hA hC h
    rw [Nat.zero_add]
    exact hQ L a w hC inv (hnone inv hA h.1) h.2
  | succ f ih =>
    intro L L' a w inv hA hC h
    by_cases hr : Region.ready .any (l.take n).toArray L' = []
    · exact wpAny_most (f + 1) (hQ L a w hC inv (hnone inv hA hr) (h.1 hr))
    · obtain ⟨i0, hi0⟩ := List.exists_mem_of_ne_nil _ hr
      have hi0n : i0 < n := by
        obtain ⟨-, o, ho, -⟩ := mem_ready.1 hi0
        have := (Array.getElem?_eq_some_iff.1 ho).1
        simp at this; omega
      have hL0 := (head_ready inv hn hA hd hi0n).2 hi0
      rw [show f + 1 + g = (f + g) + 1 by omega]
      refine ⟨fun h0 => (by rw [h0] at hL0; cases hL0), fun i hi => ?_⟩
      have hin : i < n := by
        rcases Nat.lt_or_ge i n with h1 | h1
        · exact h1
        · exact absurd hi (tail_waits hs hc (by simpa using hn) inv _ i0 rfl hi0n (mem_ready.1 hL0).1 i h1)
      have hq := h.2 i ((head_ready inv hn hA hd hin).1 hi)
      obtain ⟨o, ho, _, hg⟩ := lowEdges_at hd i hin
      have ho1 : l.toArray[i]? = some o := by simpa using ho
      have ho2 : (l.take n).toArray[i]? = some o := by rw [take_at hin]; exact ho1
      have hwant : ∀ a : Act, Region.wanted o (yielded (l.take n).toArray a.tmps) = Region.wanted o (yielded l.toArray a.tmps) := by
        intro a
        unfold Region.wanted
        split
        · rfl
        · rename_i j b hgj
          unfold yielded
          rw [take_at (hg j b hgj)]
      have hL : n ≤ L.size := by rw [inv.size]; simp; omega
      have next : ∀ a' w', C w' → wpAnyQ P .any (l.take n).toArray C Qn f (L'.setIfInBounds i true) a' → wpAny P .any l.toArray R (f + g) (L.setIfInBounds i true) a' w' :=
        fun a' w' hC' h' => ih _ _ a' w' (inv.set hi hin) (hA.set hL i) hC' h'
      unfold qOp at hq
      unfold wpOp
      simp only [ho2] at hq
      simp only [ho1]
      rw [hwant a] at hq
      split
      · rename_i hw; simp only [hw, if_true] at hq; exact .inl (Oper.wp_of_quiet hC next hq)
      · rename_i hw; simp only [hw] at hq; exact next _ _ hC hq
theorem wp_region_quiet_tail {id : Nat} {a : Act} {w : World} (n : Nat) (hm : P.follows .mixedOrders = true) (hB : Region.lexB .any (l.take n).toArray = true) (hT : tailOkB l n = true) (hC : C w.drew)
    (h : wpQuiet P (l.take n).toArray C (fun a' => ∀ w', C w' → wpList P l.toArray R (l.drop n) a' w') (l.take n) a) : (Code.region id l.toArray true).wp P R a w := by
  simp only [tailOkB, Bool.and_eq_true, decide_eq_true_eq] at hT
  obtain ⟨⟨⟨⟨hn, hs⟩, hc⟩, hd⟩, hseq⟩ := hT
  simp only [Region.lexB, Bool.and_eq_true] at hB
  have hlen : (l.take n).length = n := by simp; omega
  have inv0 : HeadInv .any l.toArray n (Array.replicate l.toArray.size false) :=
    ⟨by simp, fun j oj _ hl => (by rw [getD_replicate_false] at hl; cases hl), fun t _ ht => getD_in (by simpa using ht) (getD_replicate_false _ _)⟩
  have hA : Agree n (Array.replicate l.toArray.size false) (Array.replicate (l.take n).toArray.size false) := by
    refine ⟨by simpa using hlen, fun j hj => ?_⟩
    rw [getD_in (by simp; omega) (getD_replicate_false _ _), getD_in (by simp; omega) (getD_replicate_false _ _)]
  have hq := wpAnyQ_lex (C := C) (md := .any) hB.1 (l.take n) 0 (Array.replicate (l.take n).toArray.size false) a (by simp) (by simpa using hB.2) h
  have := wpAny_of_head_quiet (P := P) (R := R) (g := l.length - n) hs hc hd hn (fun L a' w' hC' inv hall hQ => by
    have eL : L = (List.replicate n true ++ List.replicate (l.length - n) false).toArray := by
      apply Array.ext
      · rw [inv.size]; simp; omega
      · intro j hj _
        have hj' : j < l.length := by rw [inv.size] at hj; simpa using hj
        rcases Nat.lt_or_ge j n with h1 | h1
        · have := hall j h1
          simp only [Array.getD_eq_getD_getElem?, Array.getElem?_eq_getElem hj, Option.getD_some] at this
          simp [this, h1]
        · have := inv.tail j h1 (by simpa using hj')
          simp only [Array.getD_eq_getD_getElem?, Array.getElem?_eq_getElem hj, Option.getD_some] at this
          simp [this, List.getElem_append, Nat.not_lt.2 h1]
    have hdl : (l.drop n).length = l.length - n := by simp
    have := wpAny_of_seq (md := .any) (Q' := R) (l.drop n) n L a' w' (fun j => by simp [List.getElem?_drop]) (by rw [hdl, eL]; exact hseq) (hQ w' hC')
    rwa [hdl] at this) (l.take n).length _ _ a _ inv0 hA hC hq
  refine wp_region_any hm ?_
  rw [hlen, show n + (l.length - n) = l.toArray.size by simp; omega] at this
  exact this
end
theorem own_tail {P : Program} {W0 w : World} {lst : List (Nat × TypeId × List Value)} {l : List Oper} {R : Exit → Act → World → Prop} {id : Nat} {a : Act} (n : Nat) (HM : Hid (Own W0 w lst)) (hm : P.follows .mixedOrders = true)
    (hB : Region.lexB .any (l.take n).toArray = true) (hT : tailOkB l n = true)
    (h : wpQuiet P (l.take n).toArray (fun w' => Own W0 w' lst) (fun a' => ∀ w', Hid (Own W0 w' lst) → wpList P l.toArray R (l.drop n) a' w') (l.take n) a) : (Code.region id l.toArray true).wp P R a w :=
  wp_region_quiet_tail (C := fun w' => Own W0 w' lst) n hm hB hT HM.out.drew h
end Go.Proofs.YtljjgakfnajifaaGreatDoor
namespace Go.Proofs.YtljjgakfnajifaaGreatDoor
open Go.RowKit
theorem oneWorld : One Tryz.prog 63 := ⟨⟨_, Tryz.underlying63, rfl⟩, by kernel_rfl⟩
namespace Cs
abbrev setC (s : Cs) (v : Nat) : Cs := { s with r := { s.r with c := v } }
abbrev setIX (s : Cs) (v : Nat) : Cs := { s with r := { s.r with ix := v } }
abbrev setIY (s : Cs) (v : Nat) : Cs := { s with r := { s.r with iy := v } }
def cells (s : Cs) (b : Nat) : List Value := s.r.cells ++ [.iface 28 (.pointer (some ⟨b, 0, none⟩)), .int .u8 (s.px : Int)]
theorem cells_length (s : Cs) (b : Nat) : (s.cells b).length = 31 := rfl
theorem drop0 (s : Cs) (b : Nat) : Drop (s.cells b) 0 (s.cells b) := .z
theorem take29 (s : Cs) (b : Nat) : Take (s.cells b) 29 s.r.cells := by unfold Cs.cells Rg.cells; repeat' first | exact .z | apply Take.s
theorem over29 (s : Cs) (b : Nat) (r : Rg) : Over (s.cells b) 0 r.cells ((s.setR r).cells b) := by unfold Cs.cells Rg.cells Cs.setR; repeat' first | exact .z | apply Over.p
theorem set0 (s : Cs) (b : Nat) (v : Nat) : (s.cells b).set 0 (.int .u8 (v : Int)) = (s.setA v).cells b := rfl
theorem set1 (s : Cs) (b : Nat) (v : Nat) : (s.cells b).set 1 (.int .u8 (v : Int)) = (s.setF v).cells b := rfl
theorem set2 (s : Cs) (b : Nat) (v : Nat) : (s.cells b).set 2 (.int .u8 (v : Int)) = (s.setB v).cells b := rfl
theorem set3 (s : Cs) (b : Nat) (v : Nat) : (s.cells b).set 3 (.int .u8 (v : Int)) = (s.setC v).cells b := rfl
theorem set4 (s : Cs) (b : Nat) (v : Nat) : (s.cells b).set 4 (.int .u8 (v : Int)) = (s.setD v).cells b := rfl
theorem set5 (s : Cs) (b : Nat) (v : Nat) : (s.cells b).set 5 (.int .u8 (v : Int)) = (s.setE v).cells b := rfl
theorem set6 (s : Cs) (b : Nat) (v : Nat) : (s.cells b).set 6 (.int .u8 (v : Int)) = (s.setH v).cells b := rfl
theorem set7 (s : Cs) (b : Nat) (v : Nat) : (s.cells b).set 7 (.int .u8 (v : Int)) = (s.setL v).cells b := rfl
theorem set16 (s : Cs) (b : Nat) (v : Nat) : (s.cells b).set 16 (.int .u16 (v : Int)) = (s.setIX v).cells b := rfl
theorem set17 (s : Cs) (b : Nat) (v : Nat) : (s.cells b).set 17 (.int .u16 (v : Int)) = (s.setIY v).cells b := rfl
theorem set18 (s : Cs) (b : Nat) (v : Nat) : (s.cells b).set 18 (.int .u16 (v : Int)) = (s.setSP v).cells b := rfl
theorem set19 (s : Cs) (b : Nat) (v : Nat) : (s.cells b).set 19 (.int .u16 (v : Int)) = (s.setPC v).cells b := rfl
theorem set20 (s : Cs) (b : Nat) (v : Nat) : (s.cells b).set 20 (.int .u16 (v : Int)) = (s.setWZ v).cells b := rfl
theorem set21 (s : Cs) (b : Nat) (v : Nat) : (s.cells b).set 21 (.int .u8 (v : Int)) = (s.setI v).cells b := rfl
theorem set22 (s : Cs) (b : Nat) (v : Nat) : (s.cells b).set 22 (.int .u8 (v : Int)) = (s.setRR v).cells b := rfl
theorem set23 (s : Cs) (b : Nat) (v : Nat) : (s.cells b).set 23 (.int .u8 (v : Int)) = (s.setIM v).cells b := rfl
theorem set24 (s : Cs) (b : Nat) (v : Nat) : (s.cells b).set 24 (.int .u8 (v : Int)) = (s.setPX v).cells b := rfl
theorem set25 (s : Cs) (b : Nat) (v : Bool) : (s.cells b).set 25 (.bool v) = (s.setQ1 v).cells b := rfl
theorem set26 (s : Cs) (b : Nat) (v : Bool) : (s.cells b).set 26 (.bool v) = (s.setQ2 v).cells b := rfl
theorem set27 (s : Cs) (b : Nat) (v : Bool) : (s.cells b).set 27 (.bool v) = (s.setHT v).cells b := rfl
theorem set28 (s : Cs) (b : Nat) (v : Bool) : (s.cells b).set 28 (.bool v) = (s.setDL v).cells b := rfl
theorem set30 (s : Cs) (b : Nat) (v : Nat) : (s.cells b).set 30 (.int .u8 (v : Int)) = (s.ahead v).cells b := rfl
structure Fits (s : Cs) : Prop where
  r : s.r.Fits
  px : s.px < 256
  m : ∀ i, s.u.m i < 256
end Cs
structure Co (W0 w : World) (c b : Nat) (s : Cs) (l : Blocks) (n : Nat) : Prop where
  fits : s.Fits
  bx : Bx W0 w b s.u ((c, 65, s.cells b) :: l) n
section
variable {P : Program} {W0 w w' : World} {b c n k : Nat} {s s' : Cs} {l l' L : Blocks}
theorem Co.less (h : Co W0 w c b s l n) (hk : k ≤ n) : Co W0 w c b s l k := ⟨h.fits, h.bx.less hk⟩
theorem Co.out (h : Co W0 w c b s l n) : s.Fits ∧ s.u.Good n ∧ ∃ X, IsBox X b s.u ∧ Own W0 w ((c, 65, s.cells b) :: (l ++ X)) := ⟨h.fits, h.bx.good, h.bx.own⟩
theorem Co.back {X : Blocks} (hf : s.Fits) (hg : s.u.Good n) (hX : IsBox X b s.u) (h : Own W0 w ((c, 65, s.cells b) :: (l ++ X))) : Co W0 w c b s l n := ⟨hf, hg, X, hX, h⟩
theorem Co.made {X : Blocks} (h : Own W0 w ((c, 65, s.cells b) :: (l ++ X))) (hg : s.u.Good n) (hX : IsBox X b s.u) (hf : s.Fits) : Co W0 w c b s l n := ⟨hf, hg, X, hX, h⟩
theorem Co.made1 {X : Blocks} {e : Nat × TypeId × List Value} (h : Own W0 w (e :: (c, 65, s.cells b) :: (l ++ X))) (hg : s.u.Good n) (hX : IsBox X b s.u) (hf : s.Fits) : Co W0 w c b s (e :: l) n := ⟨hf, hg, X, hX, h.perm (List.Perm.swap _ _ _)⟩
theorem Co.back1 {X : Blocks} {e : Nat × TypeId × List Value} (hf : s.Fits) (hg : s.u.Good n) (hX : IsBox X b s.u) (h : Own W0 w (e :: (c, 65, s.cells b) :: (l ++ X))) : Co W0 w c b s (e :: l) n := ⟨hf, hg, X, hX, h.perm (List.Perm.swap _ _ _)⟩
theorem Co.call (h : Co W0 w c b s l n) (hb : Below w.heap.size w w') : Co W0 w' c b s l n := ⟨h.fits, h.bx.call hb⟩
theorem Co.drop {e : Nat × TypeId × List Value} (h : Co W0 w c b s (e :: l) n) : Co W0 w c b s l n := ⟨h.fits, (h.bx.perm (List.Perm.swap _ _ _)).drop⟩
theorem Co.perm (h : Co W0 w c b s l n) (hp : l.Perm l') : Co W0 w c b s l' n := ⟨h.fits, h.bx.perm (hp.cons _)⟩
theorem Co.m8 (h : Co W0 w c b s l n) (a : Nat) : s.m a < 256 := h.bx.good.m8 a
theorem own_setc {ops : Array Oper} {rest : List Oper} {o : Oper} {a : Act} {Q : Exit → Act → World → Prop} {ty t : TypeId} {x y : Operand} {v : Value} {g i : Nat} {cs cs' : List Value} (HM : Hid (Own W0 w l)) (ho : o.op = .store ty x y) (hx : a.eval x = .pointer (some ⟨g, i, none⟩)) (hy : a.eval y = v)
    (hsel : Sel l g t cs) (hcs : cs.set i v = cs') (hs : Put l g t cs cs' l') (hty : Size P ty 1) (h1 : v.oneCell' = true) (hw : Region.wanted o (yielded ops a.tmps) = true) (hi : i < cs.length)
    (hd : o.dst = none) (h : ∀ w', Hid (Own W0 w' l') → wpList P ops Q rest a w') : wpList P ops Q (o :: rest) a w := by
  subst hcs
  exact own_put HM ho hx hy hsel hs hty h1 hw hi hd h
theorem own_oldrow {ops : Array Oper} {rest : List Oper} {o : Oper} {a : Act} {Q : Exit → Act → World → Prop} {ty : TypeId} {x : Operand} {g off n : Nat} {cs r vs : List Value} (HM : Hid (Own W0 w l)) (ho : o.op = .load ty x) (hx : a.eval x = .pointer (some ⟨g, off, none⟩)) (hty : Agg P ty n)
    (hc : ∀ (j : Nat) (v : Value), cs[j]? = some v → W0.cell? ⟨g, j, none⟩ = some v) (hd : Drop cs off r) (ht : Take r n vs) (hw : Region.wanted o (yielded ops a.tmps) = true)
    (h : wpList P ops Q rest (a.put o.dst (.agg vs.toArray)) w) : wpList P ops Q (o :: rest) a w := by
  refine wpList_wanted hw fun K hK => ?_
  obtain ⟨⟨d, hu, hr⟩, hsz⟩ := hty
  refine wp_load_mid ty x ho g off hx vs d ?_ hu hr (by rw [ht.len]; exact hsz) (hK _ _ h)
  intro j v hv
  have e1 := hd.eq
  have e2 := ht.eq
  subst e1 e2
  rw [List.getElem?_take] at hv
  split at hv
  · rw [List.getElem?_drop] at hv
    have hc' := hc _ _ hv
    exact (HM.out.below.cell (block_lt_of_cell hc')).trans hc'
  · cases hv
theorem quiet_oldrow {a : Act} {K : Act → Prop} {dst : Option Tmp} {ty0 : TypeId} {pos : String} {aft : Array Edge} {gd : Option (Nat × Bool)} {ty : TypeId} {x : Operand} {g off n : Nat} {cs r vs : List Value} (hx : a.eval x = .pointer (some ⟨g, off, none⟩)) (hty : Agg P ty n)
    (hc : ∀ (j : Nat) (v : Value), cs[j]? = some v → W0.cell? ⟨g, j, none⟩ = some v) (hd : Drop cs off r) (ht : Take r n vs)
    (h : Oper.quiet P ⟨dst, .move (.const (.agg vs.toArray)), ty0, pos, aft, gd⟩ a (fun w' => Own W0 w' l) K) : Oper.quiet P ⟨dst, .load ty x, ty0, pos, aft, gd⟩ a (fun w' => Own W0 w' l) K := by
  obtain ⟨⟨d, hu, hr⟩, hsz⟩ := hty
  refine quiet_as (fun w hC => ?_) h
  unfold execOp
  have hrun := run_loadVar_mid (P := P) w g off ty vs d (fun j v hv => ?_) hu hr (by rw [ht.len]; exact hsz)
  · simp only [hx, Instr.loadAt, Instr.sureAddr, Sem.run_bind, Sem.run_pure, Result.andThen_ok, hrun]
  · have e1 := hd.eq
    have e2 := ht.eq
    subst e1 e2
    rw [List.getElem?_take] at hv
    split at hv
    · rw [List.getElem?_drop] at hv
      have hc' := hc _ _ hv
      exact (hC.below.cell (block_lt_of_cell hc')).trans hc'
    · cases hv
theorem Own.cells_at {g : Nat} {t : TypeId} {cs : List Value} (h : Own W0 w l) (hs : Sel l g t cs) (j : Nat) (v : Value) (hv : cs[j]? = some v) : w.cell? ⟨g, j, none⟩ = some v := by rw [(h.at_ hs).at_]; exact hv
end
namespace Cs
variable {s : Cs} {v a : Nat} {q : Bool}
theorem setA_fits (h : s.Fits) (hv : v < 256) : (s.setA v).Fits := ⟨{ h.r with a := hv }, h.px, h.m⟩
theorem setF_fits (h : s.Fits) (hv : v < 256) : (s.setF v).Fits := ⟨{ h.r with f := hv }, h.px, h.m⟩
theorem setB_fits (h : s.Fits) (hv : v < 256) : (s.setB v).Fits := ⟨{ h.r with b := hv }, h.px, h.m⟩
theorem setC_fits (h : s.Fits) (hv : v < 256) : (s.setC v).Fits := ⟨{ h.r with c := hv }, h.px, h.m⟩
theorem setD_fits (h : s.Fits) (hv : v < 256) : (s.setD v).Fits := ⟨{ h.r with d := hv }, h.px, h.m⟩
theorem setE_fits (h : s.Fits) (hv : v < 256) : (s.setE v).Fits := ⟨{ h.r with e := hv }, h.px, h.m⟩
theorem setH_fits (h : s.Fits) (hv : v < 256) : (s.setH v).Fits := ⟨{ h.r with h := hv }, h.px, h.m⟩
theorem setL_fits (h : s.Fits) (hv : v < 256) : (s.setL v).Fits := ⟨{ h.r with l := hv }, h.px, h.m⟩
theorem setIX_fits (h : s.Fits) (hv : v < 65536) : (s.setIX v).Fits := ⟨{ h.r with ix := hv }, h.px, h.m⟩
theorem setIY_fits (h : s.Fits) (hv : v < 65536) : (s.setIY v).Fits := ⟨{ h.r with iy := hv }, h.px, h.m⟩
theorem setSP_fits (h : s.Fits) (hv : v < 65536) : (s.setSP v).Fits := ⟨{ h.r with sp := hv }, h.px, h.m⟩
theorem setPC_fits (h : s.Fits) (hv : v < 65536) : (s.setPC v).Fits := ⟨{ h.r with pc := hv }, h.px, h.m⟩
theorem setWZ_fits (h : s.Fits) (hv : v < 65536) : (s.setWZ v).Fits := ⟨{ h.r with wz := hv }, h.px, h.m⟩
theorem setI_fits (h : s.Fits) (hv : v < 256) : (s.setI v).Fits := ⟨{ h.r with i := hv }, h.px, h.m⟩
theorem setRR_fits (h : s.Fits) (hv : v < 256) : (s.setRR v).Fits := ⟨{ h.r with r := hv }, h.px, h.m⟩
theorem setIM_fits (h : s.Fits) (hv : v < 256) : (s.setIM v).Fits := ⟨{ h.r with im := hv }, h.px, h.m⟩
theorem setPX_fits (h : s.Fits) (hv : v < 256) : (s.setPX v).Fits := ⟨{ h.r with px := hv }, h.px, h.m⟩
theorem setQ1_fits (h : s.Fits) : (s.setQ1 q).Fits := ⟨{ h.r with }, h.px, h.m⟩
theorem setQ2_fits (h : s.Fits) : (s.setQ2 q).Fits := ⟨{ h.r with }, h.px, h.m⟩
theorem setHT_fits (h : s.Fits) : (s.setHT q).Fits := ⟨{ h.r with }, h.px, h.m⟩
theorem setDL_fits (h : s.Fits) : (s.setDL q).Fits := ⟨{ h.r with }, h.px, h.m⟩
theorem ahead_fits (h : s.Fits) (hv : v < 256) : (s.ahead v).Fits := ⟨h.r, hv, h.m⟩
theorem setR_fits {r : Rg} (h : s.Fits) (hr : r.Fits) : (s.setR r).Fits := ⟨hr, h.px, h.m⟩
theorem rd_fits (h : s.Fits) : (s.rd a).Fits := ⟨h.r, h.px, h.m⟩
theorem tick_fits (h : s.Fits) : s.tick.Fits := ⟨{ h.r with r := (by have := h.r.r; show s.r.r / 128 * 128 + (s.r.r % 128 + 1) % 128 < 256; omega) }, h.px, h.m⟩
theorem next_fits (h : s.Fits) : s.next.Fits := ⟨{ h.r with pc := up1_lt _ }, h.px, h.m⟩
theorem pair_lt (h : s.Fits) (n : Int) : s.pair n < 65536 := s.r.pair_lt h.r _
theorem one_lt (h : s.Fits) (n : Int) : s.one n < 256 := s.r.one_lt h.r _ _
theorem own_lt (h : s.Fits) (n : Int) : s.own n < 256 := s.r.one_lt h.r _ _
theorem m_lt (h : s.Fits) (i : Nat) : s.m i < 256 := h.m i
theorem numV_lt (h : s.Fits) (i : Nat) : s.numV i < 65536 := by have := h.m i; have := h.m (up1 i); unfold numV Cs.m; omega
end Cs
section
variable {P : Program} {W0 w w' : World} {b c n : Nat} {s s' : Cs} {l : Blocks} {ops : Array Oper} {rest : List Oper} {o : Oper} {a : Act} {Q : Exit → Act → World → Prop} {ty t : TypeId} {x y : Operand} {v : Value}
theorem ftA {v : Nat} (h : s.Fits) (hv : v < 256) : (s.setA v).Fits := Cs.setA_fits h hv
theorem ftF {v : Nat} (h : s.Fits) (hv : v < 256) : (s.setF v).Fits := Cs.setF_fits h hv
theorem ftB {v : Nat} (h : s.Fits) (hv : v < 256) : (s.setB v).Fits := Cs.setB_fits h hv
theorem ftC {v : Nat} (h : s.Fits) (hv : v < 256) : (s.setC v).Fits := Cs.setC_fits h hv
theorem ftD {v : Nat} (h : s.Fits) (hv : v < 256) : (s.setD v).Fits := Cs.setD_fits h hv
theorem ftE {v : Nat} (h : s.Fits) (hv : v < 256) : (s.setE v).Fits := Cs.setE_fits h hv
theorem ftH {v : Nat} (h : s.Fits) (hv : v < 256) : (s.setH v).Fits := Cs.setH_fits h hv
theorem ftL {v : Nat} (h : s.Fits) (hv : v < 256) : (s.setL v).Fits := Cs.setL_fits h hv
theorem ftS {v : Nat} (h : s.Fits) (hv : v < 65536) : (s.setSP v).Fits := Cs.setSP_fits h hv
theorem ftP {v : Nat} (h : s.Fits) (hv : v < 65536) : (s.setPC v).Fits := Cs.setPC_fits h hv
theorem ftW {v : Nat} (h : s.Fits) (hv : v < 65536) : (s.setWZ v).Fits := Cs.setWZ_fits h hv
theorem ftI {v : Nat} (h : s.Fits) (hv : v < 256) : (s.setI v).Fits := Cs.setI_fits h hv
theorem ftR {v : Nat} (h : s.Fits) (hv : v < 256) : (s.setRR v).Fits := Cs.setRR_fits h hv
theorem ftM {v : Nat} (h : s.Fits) (hv : v < 256) : (s.setIM v).Fits := Cs.setIM_fits h hv
theorem ftX {v : Nat} (h : s.Fits) (hv : v < 256) : (s.setPX v).Fits := Cs.setPX_fits h hv
theorem ft1 {v : Bool} (h : s.Fits) : (s.setQ1 v).Fits := Cs.setQ1_fits h
theorem ft2 {v : Bool} (h : s.Fits) : (s.setQ2 v).Fits := Cs.setQ2_fits h
theorem ftT {v : Bool} (h : s.Fits) : (s.setHT v).Fits := Cs.setHT_fits h
theorem ftY {v : Bool} (h : s.Fits) : (s.setDL v).Fits := Cs.setDL_fits h
theorem ftr {r : Rg} (h : s.Fits) (hr : r.Fits) : (s.setR r).Fits := Cs.setR_fits h hr
theorem ftZ {v : Nat} (h : s.Fits) (hv : v < 256) : (s.ahead v).Fits := Cs.ahead_fits h hv
theorem sc0 {v : Nat} : (s.cells b).set 0 (.int .u8 (v : Int)) = (s.setA v).cells b := rfl
theorem sc1 {v : Nat} : (s.cells b).set 1 (.int .u8 (v : Int)) = (s.setF v).cells b := rfl
theorem sc2 {v : Nat} : (s.cells b).set 2 (.int .u8 (v : Int)) = (s.setB v).cells b := rfl
theorem sc3 {v : Nat} : (s.cells b).set 3 (.int .u8 (v : Int)) = (s.setC v).cells b := rfl
theorem sc4 {v : Nat} : (s.cells b).set 4 (.int .u8 (v : Int)) = (s.setD v).cells b := rfl
theorem sc5 {v : Nat} : (s.cells b).set 5 (.int .u8 (v : Int)) = (s.setE v).cells b := rfl
theorem sc6 {v : Nat} : (s.cells b).set 6 (.int .u8 (v : Int)) = (s.setH v).cells b := rfl
theorem sc7 {v : Nat} : (s.cells b).set 7 (.int .u8 (v : Int)) = (s.setL v).cells b := rfl
theorem sc16 {v : Nat} : (s.cells b).set 16 (.int .u16 (v : Int)) = (s.setIX v).cells b := rfl
theorem sc17 {v : Nat} : (s.cells b).set 17 (.int .u16 (v : Int)) = (s.setIY v).cells b := rfl
theorem sc18 {v : Nat} : (s.cells b).set 18 (.int .u16 (v : Int)) = (s.setSP v).cells b := rfl
theorem sc19 {v : Nat} : (s.cells b).set 19 (.int .u16 (v : Int)) = (s.setPC v).cells b := rfl
theorem sc20 {v : Nat} : (s.cells b).set 20 (.int .u16 (v : Int)) = (s.setWZ v).cells b := rfl
theorem sc21 {v : Nat} : (s.cells b).set 21 (.int .u8 (v : Int)) = (s.setI v).cells b := rfl
theorem sc22 {v : Nat} : (s.cells b).set 22 (.int .u8 (v : Int)) = (s.setRR v).cells b := rfl
theorem sc23 {v : Nat} : (s.cells b).set 23 (.int .u8 (v : Int)) = (s.setIM v).cells b := rfl
theorem sc24 {v : Nat} : (s.cells b).set 24 (.int .u8 (v : Int)) = (s.setPX v).cells b := rfl
theorem sc25 {v : Bool} : (s.cells b).set 25 (.bool v) = (s.setQ1 v).cells b := rfl
theorem sc26 {v : Bool} : (s.cells b).set 26 (.bool v) = (s.setQ2 v).cells b := rfl
theorem sc27 {v : Bool} : (s.cells b).set 27 (.bool v) = (s.setHT v).cells b := rfl
theorem sc28 {v : Bool} : (s.cells b).set 28 (.bool v) = (s.setDL v).cells b := rfl
theorem sc30 {v : Nat} : (s.cells b).set 30 (.int .u8 (v : Int)) = (s.ahead v).cells b := rfl
theorem oneOf {ty : TypeId} (h : ty = 5 ∨ ty = 23 ∨ ty = 4 ∨ ty = 63) : One Tryz.prog ty := by
  rcases h with rfl | rfl | rfl | rfl
  · exact oneU8
  · exact oneU16
  · exact oneBool
  · exact oneWorld
theorem cget {g off : Nat} {cs : List Value} (HM : Hid (Own W0 w ((g, t, cs) :: l))) (ho : o.op = .load ty x) (hx : a.eval x = .pointer (some ⟨g, off, none⟩)) (hty : One P ty) (hd : cs[off]? = some v) (hw : Region.wanted o (yielded ops a.tmps) = true)
    (h : wpList P ops Q rest (a.put o.dst v) w) : wpList P ops Q (o :: rest) a w := own_get HM ho hx hty .z hd hw h
theorem crow (HM : Hid (Own W0 w ((c, t, s.cells b) :: l))) (ho : o.op = .load 25 x) (hx : a.eval x = .pointer (some ⟨c, 0, none⟩)) (hw : Region.wanted o (yielded ops a.tmps) = true)
    (h : wpList Tryz.prog ops Q rest (a.put o.dst (.agg s.r.cells.toArray)) w) : wpList Tryz.prog ops Q (o :: rest) a w := own_load HM ho hx aggR .z (Cs.drop0 _ _) (Cs.take29 _ _) hw h
theorem clay {r : Rg} (HM : Hid (Own W0 w ((c, t, s.cells b) :: l))) (ho : o.op = .store 25 x y) (hx : a.eval x = .pointer (some ⟨c, 0, none⟩)) (hy : a.eval y = v) (hv : v.cells = r.cells.toArray) (hw : Region.wanted o (yielded ops a.tmps) = true) (hd : o.dst = none)
    (h : ∀ w', Hid (Own W0 w' ((c, t, (s.setR r).cells b) :: l)) → wpList Tryz.prog ops Q rest a w') : wpList Tryz.prog ops Q (o :: rest) a w := own_store HM ho hx hy hv .z (Cs.over29 _ _ _) .z aggR.size (Rg.cells_length _) (Rg.one1 _) hw hd h
theorem cput {i : Nat} (HM : Hid (Own W0 w ((c, t, s.cells b) :: l))) (ho : o.op = .store ty x y) (hx : a.eval x = .pointer (some ⟨c, i, none⟩)) (hy : a.eval y = v) (hs : (s.cells b).set i v = s'.cells b) (hty : Size P ty 1) (h1 : v.oneCell' = true) (hw : Region.wanted o (yielded ops a.tmps) = true) (hi : i < 31)
    (hd : o.dst = none) (h : ∀ w', Hid (Own W0 w' ((c, t, s'.cells b) :: l)) → wpList P ops Q rest a w') : wpList P ops Q (o :: rest) a w := own_setc HM ho hx hy .z hs .z hty h1 hw hi hd h
theorem cgY {g off : Nat} {cs : List Value} (HM : Hid (Own W0 w ((g, t, cs) :: l))) (h : o.op = .load ty x ∧ a.eval x = .pointer (some ⟨g, off, none⟩) ∧ One P ty ∧ cs[off]? = some v ∧ Region.wanted o (yielded ops a.tmps) = true)
    (k : wpList P ops Q rest (a.put o.dst v) w) : wpList P ops Q (o :: rest) a w := cget HM h.1 h.2.1 h.2.2.1 h.2.2.2.1 h.2.2.2.2 k
theorem crY (HM : Hid (Own W0 w ((c, t, s.cells b) :: l))) (h : o.op = .load 25 x ∧ a.eval x = .pointer (some ⟨c, 0, none⟩) ∧ Region.wanted o (yielded ops a.tmps) = true)
    (k : wpList Tryz.prog ops Q rest (a.put o.dst (.agg s.r.cells.toArray)) w) : wpList Tryz.prog ops Q (o :: rest) a w := crow HM h.1 h.2.1 h.2.2 k
theorem clY {r : Rg} (HM : Hid (Own W0 w ((c, t, s.cells b) :: l))) (h : o.op = .store 25 x y ∧ a.eval x = .pointer (some ⟨c, 0, none⟩) ∧ a.eval y = v ∧ v.cells = r.cells.toArray ∧ Region.wanted o (yielded ops a.tmps) = true ∧ o.dst = none)
    (k : ∀ w', Hid (Own W0 w' ((c, t, (s.setR r).cells b) :: l)) → wpList Tryz.prog ops Q rest a w') : wpList Tryz.prog ops Q (o :: rest) a w := clay HM h.1 h.2.1 h.2.2.1 h.2.2.2.1 h.2.2.2.2.1 h.2.2.2.2.2 k
theorem cpY {i : Nat} (HM : Hid (Own W0 w ((c, t, s.cells b) :: l))) (h : o.op = .store ty x y ∧ a.eval x = .pointer (some ⟨c, i, none⟩) ∧ a.eval y = v ∧ (s.cells b).set i v = s'.cells b ∧ Size P ty 1 ∧ v.oneCell' = true ∧ Region.wanted o (yielded ops a.tmps) = true ∧ i < 31 ∧ o.dst = none)
    (k : ∀ w', Hid (Own W0 w' ((c, t, s'.cells b) :: l)) → wpList P ops Q rest a w') : wpList P ops Q (o :: rest) a w := cput HM h.1 h.2.1 h.2.2.1 h.2.2.2.1 h.2.2.2.2.1 h.2.2.2.2.2.1 h.2.2.2.2.2.2.1 h.2.2.2.2.2.2.2.1 h.2.2.2.2.2.2.2.2 k
theorem Co.ok {X : Blocks} (h : Own W0 w ((c, 65, s.cells b) :: (l ++ X))) (hg : s.u.Good n) (hX : IsBox X b s.u)
    (hf : s.Fits := by first | with_reducible exact HF.out | (focus repeat' (first | (with_reducible first | exact HF.out | apply ftA | apply ftF | apply ftB | apply ftC | apply ftD | apply ftE | apply ftH | apply ftL | apply ftS | apply ftP | apply ftW | apply ftI | apply ftR | apply ftM | apply ftX | apply ft1 | apply ft2 | apply ftT | apply ftY | apply ftZ | apply ftr | exact up1_lt _ | exact dn1_lt _ | exact wMove_lt _ _ | exact nByte_lt _ _ _ _ _ _ _ _ | exact Nat.mod_lt _ (by decide)) | assumption | omega | exact Nat.mod_lt _ (by decide)))) : Co W0 w c b s l n := ⟨hf, hg, X, hX, h⟩
theorem Co.hid (h : Co W0 w c b s l n) : ∃ X, Hid s.Fits ∧ Hid (s.u.Good n) ∧ Hid (IsBox X b s.u) ∧ Hid (Own W0 w ((c, 65, s.cells b) :: (l ++ X))) := by
  obtain ⟨h1, h2, X, h3, h4⟩ := h.out
  exact ⟨X, h1, h2, h3, h4⟩
theorem Co.hid1 {e : Nat × TypeId × List Value} (h : Co W0 w c b s (e :: l) n) : ∃ X, Hid s.Fits ∧ Hid (s.u.Good n) ∧ Hid (IsBox X b s.u) ∧ Hid (Own W0 w ((c, 65, s.cells b) :: e :: (l ++ X))) := h.hid
theorem Co.hid2 {e e' : Nat × TypeId × List Value} (h : Co W0 w c b s (e :: e' :: l) n) : ∃ X, Hid s.Fits ∧ Hid (s.u.Good n) ∧ Hid (IsBox X b s.u) ∧ Hid (Own W0 w ((c, 65, s.cells b) :: e :: e' :: (l ++ X))) := h.hid
theorem own_box1 {e : Nat × TypeId × List Value} {vs : List Value} (HM : Hid (Own W0 w (e :: l))) (ho : o.op = .box ty x) (hy : a.eval x = v) (hv : v.cells = vs.toArray) (hw : Region.wanted o (yielded ops a.tmps) = true)
    (h : ∀ w' g, Hid (Own W0 w' (e :: (g, ty, vs) :: l)) → wpList P ops Q rest (a.put o.dst (.pointer (some ⟨g, 0, none⟩))) w') : wpList P ops Q (o :: rest) a w := own_box HM ho hy hv hw fun w' g h' => h w' g (Lib.hid (h'.out.perm (List.Perm.swap _ _ _)))
end
end Go.Proofs.YtljjgakfnajifaaGreatDoor
namespace Go.Proofs.YtljjgakfnajifaaGreatDoor
open Go.RowKit
theorem and8i {a b : Nat} (h : a < 256) : ((a &&& b : Nat) : Int) < 256 := by have := and8 (b := b) h; omega
theorem and8i' {a b : Nat} (h : b < 256) : ((a &&& b : Nat) : Int) < 256 := by have := and8' (a := a) h; omega
theorem or8i {a b : Nat} (h : a < 256) (h' : b < 256) : ((a ||| b : Nat) : Int) < 256 := by have := or8 h h'; omega
theorem xor8i {a b : Nat} (h : a < 256) (h' : b < 256) : ((a ^^^ b : Nat) : Int) < 256 := by have := xor8 h h'; omega
theorem ret_byte {a : Int} {v : Nat} (h : a = (v : Int)) : (Ending.returned (.int .u8 a) : Ending) = .returned (.int .u8 (v : Int)) := by rw [h]
end Go.Proofs.YtljjgakfnajifaaGreatDoor
namespace Go.Proofs.YtljjgakfnajifaaGreatDoor
open Go.RowKit
theorem ret_pair {a b : Int} {v f : Nat} (h : a = (v : Int)) (h' : b = (f : Int)) : (Ending.returned (.tuple #[.int .u8 a, .int .u8 b]) : Ending) = .returned (.tuple #[.int .u8 (v : Int), .int .u8 (f : Int)]) := by rw [h, h']
theorem ret_truth {a b : Bool} (h : a = b) : (Ending.returned (.bool a) : Ending) = .returned (.bool b) := by rw [h]
theorem idx_text {s : ByteArray} {r : Nat → Nat} (hr : allB 256 (fun v => Nat.beq (s.data.getD v 0).toNat (r v)) = true) (v : Nat) (h : v < 256) (h' : v < s.size) : (s[v]'h').toNat = r v := by
  have e := Nat.eq_of_beq_eq_true (allB_at hr v h)
  have hv : v < s.data.size := h'
  have e2 : (s[v]'h') = s.data.getD v 0 := by
    show s.data[v] = _
    rw [Array.getD_eq_getD_getElem?, Array.getElem?_eq_getElem hv]; rfl
  rw [e2, e]
theorem wrap64_small (n : Nat) (h : n ≤ 8) : wrap64 (n : Int) = n := by unfold wrap64; omega
set_option maxRecDepth 1000000 in
set_option maxHeartbeats 3200000 in
theorem ones_any (v : Nat) (h : v < 256) (w : World) : Calls Tryz.prog 228 #[.int .u8 (v : Int)] w fun e w' => e = .returned (.int .i64 ((nOnes 8 v : Nat) : Int)) ∧ w = w' := by
  obtain ⟨n, hn⟩ : ∃ n, n = nOnes 8 v := ⟨_, rfl⟩
  have l : n ≤ 8 := by
    rw [hn]
    simpa using allB_at (show allB 256 (fun v => Nat.ble (nOnes 8 v) 8) = true by decide +kernel) v h
  rw [← hn]
  have HN := Lib.hid hn.symm
  clear hn
  go_enter Tryz.func228, Tryz.ntmps228
  go_wp2
  go_ret
  refine ⟨congrArg (fun x => Ending.returned (Value.int .i64 x)) ?_, rfl⟩
  rw [← wrap64_small n l, ← HN.out]
  refine congrArg (fun x : Nat => wrap64 (x : Int)) ?_
  exact idx_text (by kernel_rfl) v h _
theorem ones_le (v : Nat) (h : v < 256) : nOnes 8 v ≤ 8 := by
  have := allB_at (show allB 256 (fun v => Nat.ble (nOnes 8 v) 8) = true by decide +kernel) v h
  simpa using this
theorem parity_any (v : Nat) (h : v < 256) (w : World) : Calls Tryz.prog 191 #[.int .u8 (v : Int)] w fun e w' => e = .returned (.bool (nPar v)) ∧ w = w' := by
  obtain ⟨n, hn⟩ : ∃ n, n = nOnes 8 v := ⟨_, rfl⟩
  have l : n ≤ 8 := hn ▸ ones_le v h
  have HN := Lib.hid hn
  have hp : nPar v = Nat.beq (Nat.mod n 2) 0 := by rw [hn]; rfl
  rw [hp]
  clear hp hn
  have hb : bits .and .i64 (n : Int) 1 = (n : Int) % 2 := by
    have : n = 0 ∨ n = 1 ∨ n = 2 ∨ n = 3 ∨ n = 4 ∨ n = 5 ∨ n = 6 ∨ n = 7 ∨ n = 8 := by omega
    rcases this with rfl | rfl | rfl | rfl | rfl | rfl | rfl | rfl | rfl <;> decide +kernel
  go_enter Tryz.func191, Tryz.ntmps191
  go_wp2_with (go_at_call 228; refine (ones_any v h _).mono ?_; rintro e w' ⟨rfl, rfl⟩; rw [← HN.out])
  go_ret
  refine ⟨ret_truth ?_, rfl⟩
  rw [Bool.eq_iff_iff, Nat.beq_eq]
  show _ ↔ n % 2 = 0
  simp
  omega
theorem parity_at (v : Nat) (p : Bool) (h : v < 256) (hp : Hid (nPar v = p)) (w : World) : Calls Tryz.prog 191 #[.int .u8 (v : Int)] w fun e w' => e = .returned (.bool p) ∧ w = w' := by
  rw [← hp.out]; exact parity_any v h w
theorem when_any (on : Bool) (n : Nat) (w : World) : Calls Tryz.prog 231 #[.bool on, .int .u8 (n : Int)] w fun e w' => e = .returned (.int .u8 ((cond on n 0 : Nat) : Int)) ∧ w = w' := by
  cases on
  all_goals
    go_enter Tryz.func231, Tryz.ntmps231
    go_wp2
    go_ret
    exact ⟨rfl, rfl⟩
theorem when_at (on : Bool) (n : Nat) (b : Bool) (r : Nat) (hb : on = b) (hr : Hid (cond b n 0 = r)) (w : World) : Calls Tryz.prog 231 #[.bool on, .int .u8 (n : Int)] w fun e w' => e = .returned (.int .u8 (r : Int)) ∧ w = w' := by
  rw [hb, ← hr.out]; exact when_any b n w
theorem shape_any (v : Nat) (h : v < 256) (w : World) : Calls Tryz.prog 226 #[.int .u8 (v : Int)] w fun e w' => e = .returned (.int .u8 ((nShape v : Nat) : Int)) ∧ w = w' := by
  have HS := Lib.hid (shape_bits v h)
  obtain ⟨r, hr⟩ : ∃ r, cond (Nat.beq v 0) 64 0 = r := ⟨_, rfl⟩
  rw [hr] at HS
  have HR := Lib.hid hr
  have r1 : r < 256 := by rw [← hr]; cases Nat.beq v 0 <;> decide
  clear hr
  go_enter Tryz.func226, Tryz.ntmps226
  go_wp2_with (go_at_call 231; refine (when_at _ 64 (Nat.beq v 0) r (by rw [Bool.eq_iff_iff, beq_iff_eq, Nat.beq_eq]; omega) HR _).mono ?_; rintro e w' ⟨rfl, rfl⟩)
  go_ret
  refine ⟨ret_byte ?_, rfl⟩
  rw [← HS.out]
  simp (disch := exact bS) only [u8_and, u8_or, Int.reduceToNat, Int.toNat_natCast]
  rfl
theorem shape_at (v r : Nat) (h : v < 256) (hr : Hid (nShape v = r)) (w : World) : Calls Tryz.prog 226 #[.int .u8 (v : Int)] w fun e w' => e = .returned (.int .u8 (r : Int)) ∧ w = w' := by
  rw [← hr.out]; exact shape_any v h w
end Go.Proofs.YtljjgakfnajifaaGreatDoor
namespace Go.Proofs.YtljjgakfnajifaaGreatDoor
open Go.RowKit
theorem i64_and7 (x : Int) : bits .and .i64 x 7 = x % 8 := by
  have e : (BitVec.ofInt 64 x &&& BitVec.ofInt 64 7).toNat = (x % 8).toNat := by
    rw [BitVec.toNat_and, BitVec.toNat_ofInt, BitVec.toNat_ofInt]
    rw [show ((7 : Int) % ((2 ^ 64 : Nat) : Int)).toNat = 2 ^ 3 - 1 by decide, Nat.and_two_pow_sub_one_eq_mod]
    omega
  show IntKind.i64.wrap ((BitVec.ofInt 64 x &&& BitVec.ofInt 64 7).toNat : Int) = _
  rw [e]
  rw [IntWalk.i64_in _ (by omega)]
  omega
end Go.Proofs.YtljjgakfnajifaaGreatDoor
namespace Go.Proofs.YtljjgakfnajifaaGreatDoor
open Go.RowKit
theorem ret_wide {a b : Int} {v f : Nat} (h : a = (v : Int)) (h' : b = (f : Int)) : (Ending.returned (.tuple #[.int .u16 a, .int .u8 b]) : Ending) = .returned (.tuple #[.int .u16 (v : Int), .int .u8 (f : Int)]) := by rw [h, h']
theorem ret_two {a b : Int} {v f : Nat} (h : a = (v : Int)) (h' : b = (f : Int)) : (Ending.returned (.tuple #[.int .u8 a, .int .u8 b]) : Ending) = .returned (.tuple #[.int .u8 (v : Int), .int .u8 (f : Int)]) := by rw [h, h']
theorem ret_word {a : Int} {v : Nat} (h : a = (v : Int)) : (Ending.returned (.int .u16 a) : Ending) = .returned (.int .u16 (v : Int)) := by rw [h]
theorem high_at (v r : Nat) (hv : v < 65536) (hr : Hid (wHigh v = r)) (w : World) : Calls Tryz.prog 202 #[.int .u16 (v : Int)] w fun e w' => e = .returned (.int .u8 (r : Int)) ∧ w = w' := by
  go_enter Tryz.func202, Tryz.ntmps202
  go_wp2
  go_ret
  refine ⟨ret_byte ?_, rfl⟩
  have h : v / 256 = r := hr.out
  omega
theorem split_at (v h l : Nat) (hv : v < 65536) (hh : Hid (wHigh v = h)) (hl : Hid (v % 256 = l)) (w : World) :
    Calls Tryz.prog 141 #[.int .u16 (v : Int)] w fun e w' => e = .returned (.tuple #[.int .u8 (h : Int), .int .u8 (l : Int)]) ∧ w = w' := by
  have e : (v : Int) % 256 = (l : Int) := by have := hl.out; omega
  go_enter Tryz.func141, Tryz.ntmps141
  go_wp2_with (go_at_call 202; (with_reducible refine (high_at v h hv hh _).mono ?_); rintro e w' ⟨rfl, rfl⟩)
  go_ret2
  exact ⟨ret_two rfl e, rfl⟩
theorem join_at (h l v : Nat) (hh : h < 256) (hl : l < 256) (hv : Hid (h * 256 + l = v)) (w : World) :
    Calls Tryz.prog 96 #[.int .u8 (h : Int), .int .u8 (l : Int)] w fun e w' => e = .returned (.int .u16 (v : Int)) ∧ w = w' := by
  have e : bits .or .u16 ((h : Int) * 256) (l : Int) = (v : Int) := by
    rw [show ((h : Int) * 256) = ((h * 256 : Nat) : Int) by omega, u16_or_nat _ _ (by omega) (by omega), nat_join 8 _ _ (by omega) (by omega), hv.out]
  go_enter Tryz.func96, Tryz.ntmps96
  go_wp2
  go_ret
  exact ⟨rfl, rfl⟩
end Go.Proofs.YtljjgakfnajifaaGreatDoor
namespace Go.Proofs.YtljjgakfnajifaaGreatDoor
open Go.RowKit
theorem wide_3 (g : Nat) (w : World) : Calls Tryz.prog 203 #[.pointer (some ⟨g, 0, none⟩), .int .i64 3] w fun e w' => e = .returned (.pointer (some ⟨g, 18, none⟩)) ∧ w = w' := by
  go_enter Tryz.func203, Tryz.ntmps203
  go_wp2
  go_ret
  exact ⟨rfl, rfl⟩
theorem wide_5 (g : Nat) (w : World) : Calls Tryz.prog 203 #[.pointer (some ⟨g, 0, none⟩), .int .i64 5] w fun e w' => e = .returned (.pointer (some ⟨g, 16, none⟩)) ∧ w = w' := by
  go_enter Tryz.func203, Tryz.ntmps203
  go_wp2
  go_ret
  exact ⟨rfl, rfl⟩
theorem wide_6 (g : Nat) (w : World) : Calls Tryz.prog 203 #[.pointer (some ⟨g, 0, none⟩), .int .i64 6] w fun e w' => e = .returned (.pointer (some ⟨g, 17, none⟩)) ∧ w = w' := by
  go_enter Tryz.func203, Tryz.ntmps203
  go_wp2
  go_ret
  exact ⟨rfl, rfl⟩
theorem wide_no (g : Nat) (n : Int) (h3 : ¬ n = 3) (h5 : ¬ n = 5) (h6 : ¬ n = 6) (w : World) : Calls Tryz.prog 203 #[.pointer (some ⟨g, 0, none⟩), .int .i64 n] w fun e w' => e = .returned (.pointer none) ∧ w = w' := by
  go_enter Tryz.func203, Tryz.ntmps203
  go_wp2
  go_ret
  exact ⟨rfl, rfl⟩
theorem wide_no0 (g : Nat) (w : World) : Calls Tryz.prog 203 #[.pointer (some ⟨g, 0, none⟩), .int .i64 0] w fun e w' => e = .returned (.pointer none) ∧ w = w' := by
  go_enter Tryz.func203, Tryz.ntmps203
  go_wp2
  go_ret
  exact ⟨rfl, rfl⟩
theorem wide_no1 (g : Nat) (w : World) : Calls Tryz.prog 203 #[.pointer (some ⟨g, 0, none⟩), .int .i64 1] w fun e w' => e = .returned (.pointer none) ∧ w = w' := by
  go_enter Tryz.func203, Tryz.ntmps203
  go_wp2
  go_ret
  exact ⟨rfl, rfl⟩
theorem wide_no2 (g : Nat) (w : World) : Calls Tryz.prog 203 #[.pointer (some ⟨g, 0, none⟩), .int .i64 2] w fun e w' => e = .returned (.pointer none) ∧ w = w' := by
  go_enter Tryz.func203, Tryz.ntmps203
  go_wp2
  go_ret
  exact ⟨rfl, rfl⟩
theorem wide_no4 (g : Nat) (w : World) : Calls Tryz.prog 203 #[.pointer (some ⟨g, 0, none⟩), .int .i64 4] w fun e w' => e = .returned (.pointer none) ∧ w = w' := by
  go_enter Tryz.func203, Tryz.ntmps203
  go_wp2
  go_ret
  exact ⟨rfl, rfl⟩
theorem halves_0 (g : Nat) (w : World) : Calls Tryz.prog 204 #[.pointer (some ⟨g, 0, none⟩), .int .i64 0] w fun e w' => e = .returned (.tuple #[.pointer (some ⟨g, 2, none⟩), .pointer (some ⟨g, 3, none⟩)]) ∧ Below w.heap.size w w' := by
  go_enter Tryz.func204, Tryz.ntmps204
  go_wp2_with fail
  go_quiet (fail)
  go_wp2_with fail
  go_ret2
  exact ⟨rfl, below_drewN (Below.refl _ _) _⟩
theorem halves_1 (g : Nat) (w : World) : Calls Tryz.prog 204 #[.pointer (some ⟨g, 0, none⟩), .int .i64 1] w fun e w' => e = .returned (.tuple #[.pointer (some ⟨g, 4, none⟩), .pointer (some ⟨g, 5, none⟩)]) ∧ Below w.heap.size w w' := by
  go_enter Tryz.func204, Tryz.ntmps204
  go_wp2_with fail
  go_quiet (fail)
  go_wp2_with fail
  go_ret2
  exact ⟨rfl, below_drewN (Below.refl _ _) _⟩
theorem halves_2 (g : Nat) (w : World) : Calls Tryz.prog 204 #[.pointer (some ⟨g, 0, none⟩), .int .i64 2] w fun e w' => e = .returned (.tuple #[.pointer (some ⟨g, 6, none⟩), .pointer (some ⟨g, 7, none⟩)]) ∧ Below w.heap.size w w' := by
  go_enter Tryz.func204, Tryz.ntmps204
  go_wp2_with fail
  go_quiet (fail)
  go_wp2_with fail
  go_ret2
  exact ⟨rfl, below_drewN (Below.refl _ _) _⟩
theorem halves_4 (g : Nat) (w : World) : Calls Tryz.prog 204 #[.pointer (some ⟨g, 0, none⟩), .int .i64 4] w fun e w' => e = .returned (.tuple #[.pointer (some ⟨g, 0, none⟩), .pointer (some ⟨g, 1, none⟩)]) ∧ Below w.heap.size w w' := by
  go_enter Tryz.func204, Tryz.ntmps204
  go_wp2_with fail
  go_quiet (fail)
  go_wp2_with fail
  go_ret2
  exact ⟨rfl, below_drewN (Below.refl _ _) _⟩
theorem halves_no (g : Nat) (n : Int) (h0 : ¬ n = 0) (h1 : ¬ n = 1) (h2 : ¬ n = 2) (h4 : ¬ n = 4) (w : World) : Calls Tryz.prog 204 #[.pointer (some ⟨g, 0, none⟩), .int .i64 n] w fun e w' => e = .returned (.tuple #[.pointer none, .pointer none]) ∧ w = w' := by
  go_enter Tryz.func204, Tryz.ntmps204
  go_wp2
  go_ret2
  exact ⟨rfl, rfl⟩
theorem halves_no3 (g : Nat) (w : World) : Calls Tryz.prog 204 #[.pointer (some ⟨g, 0, none⟩), .int .i64 3] w fun e w' => e = .returned (.tuple #[.pointer none, .pointer none]) ∧ w = w' := by
  go_enter Tryz.func204, Tryz.ntmps204
  go_wp2
  go_ret2
  exact ⟨rfl, rfl⟩
theorem halves_no5 (g : Nat) (w : World) : Calls Tryz.prog 204 #[.pointer (some ⟨g, 0, none⟩), .int .i64 5] w fun e w' => e = .returned (.tuple #[.pointer none, .pointer none]) ∧ w = w' := by
  go_enter Tryz.func204, Tryz.ntmps204
  go_wp2
  go_ret2
  exact ⟨rfl, rfl⟩
theorem halves_no6 (g : Nat) (w : World) : Calls Tryz.prog 204 #[.pointer (some ⟨g, 0, none⟩), .int .i64 6] w fun e w' => e = .returned (.tuple #[.pointer none, .pointer none]) ∧ w = w' := by
  go_enter Tryz.func204, Tryz.ntmps204
  go_wp2
  go_ret2
  exact ⟨rfl, rfl⟩
theorem single_0 (g : Nat) (w : World) : Calls Tryz.prog 206 #[.pointer (some ⟨g, 0, none⟩), .int .i64 0] w fun e w' => e = .returned (.pointer (some ⟨g, 2, none⟩)) ∧ w = w' := by
  go_enter Tryz.func206, Tryz.ntmps206
  go_wp2
  go_ret
  exact ⟨rfl, rfl⟩
theorem single_1 (g : Nat) (w : World) : Calls Tryz.prog 206 #[.pointer (some ⟨g, 0, none⟩), .int .i64 1] w fun e w' => e = .returned (.pointer (some ⟨g, 3, none⟩)) ∧ w = w' := by
  go_enter Tryz.func206, Tryz.ntmps206
  go_wp2
  go_ret
  exact ⟨rfl, rfl⟩
theorem single_2 (g : Nat) (w : World) : Calls Tryz.prog 206 #[.pointer (some ⟨g, 0, none⟩), .int .i64 2] w fun e w' => e = .returned (.pointer (some ⟨g, 4, none⟩)) ∧ w = w' := by
  go_enter Tryz.func206, Tryz.ntmps206
  go_wp2
  go_ret
  exact ⟨rfl, rfl⟩
theorem single_3 (g : Nat) (w : World) : Calls Tryz.prog 206 #[.pointer (some ⟨g, 0, none⟩), .int .i64 3] w fun e w' => e = .returned (.pointer (some ⟨g, 5, none⟩)) ∧ w = w' := by
  go_enter Tryz.func206, Tryz.ntmps206
  go_wp2
  go_ret
  exact ⟨rfl, rfl⟩
theorem single_7 (g : Nat) (w : World) : Calls Tryz.prog 206 #[.pointer (some ⟨g, 0, none⟩), .int .i64 7] w fun e w' => e = .returned (.pointer (some ⟨g, 0, none⟩)) ∧ w = w' := by
  go_enter Tryz.func206, Tryz.ntmps206
  go_wp2
  go_ret
  exact ⟨rfl, rfl⟩
theorem single_no (g : Nat) (n : Int) (h0 : ¬ n = 0) (h1 : ¬ n = 1) (h2 : ¬ n = 2) (h3 : ¬ n = 3) (h7 : ¬ n = 7) (w : World) : Calls Tryz.prog 206 #[.pointer (some ⟨g, 0, none⟩), .int .i64 n] w fun e w' => e = .returned (.pointer none) ∧ w = w' := by
  go_enter Tryz.func206, Tryz.ntmps206
  go_wp2
  go_ret
  exact ⟨rfl, rfl⟩
theorem single_no4 (g : Nat) (w : World) : Calls Tryz.prog 206 #[.pointer (some ⟨g, 0, none⟩), .int .i64 4] w fun e w' => e = .returned (.pointer none) ∧ w = w' := by
  go_enter Tryz.func206, Tryz.ntmps206
  go_wp2
  go_ret
  exact ⟨rfl, rfl⟩
theorem single_no5 (g : Nat) (w : World) : Calls Tryz.prog 206 #[.pointer (some ⟨g, 0, none⟩), .int .i64 5] w fun e w' => e = .returned (.pointer none) ∧ w = w' := by
  go_enter Tryz.func206, Tryz.ntmps206
  go_wp2
  go_ret
  exact ⟨rfl, rfl⟩
theorem index_at (px : Nat) (k : Int) (hk : Hid (rgIdx px = k)) (w : World) : Calls Tryz.prog 205 #[.int .u8 (px : Int)] w fun e w' => e = .returned (.int .i64 k) ∧ w = w' := by
  by_cases h5 : (px : Int) = 221
  · have e : k = 5 := by rw [← hk.out, rgIdx, if_pos (by omega)]
    subst e
    have e : px = 221 := by omega
    subst e
    go_enter Tryz.func205, Tryz.ntmps205
    go_wp2
    go_ret
    exact ⟨rfl, rfl⟩
  · by_cases h6 : (px : Int) = 253
    · have e : k = 6 := by rw [← hk.out, rgIdx, if_neg (by omega), if_pos (by omega)]
      subst e
      have e : px = 253 := by omega
      subst e
      go_enter Tryz.func205, Tryz.ntmps205
      go_wp2
      go_ret
      exact ⟨rfl, rfl⟩
    · have e : k = 2 := by rw [← hk.out, rgIdx, if_neg (by omega), if_neg (by omega)]
      subst e
      go_enter Tryz.func205, Tryz.ntmps205
      go_wp2
      go_ret
      exact ⟨rfl, rfl⟩
end Go.Proofs.YtljjgakfnajifaaGreatDoor
namespace Go.Proofs.YtljjgakfnajifaaGreatDoor
open Go.RowKit
def Rg.swapAt (r : Rg) : Nat → Rg
  | 0 => { r with a := r.x0, x0 := r.a }
  | 1 => { r with f := r.x1, x1 := r.f }
  | 2 => { r with b := r.x2, x2 := r.b }
  | 3 => { r with c := r.x3, x3 := r.c }
  | 4 => { r with d := r.x4, x4 := r.d }
  | 5 => { r with e := r.x5, x5 := r.e }
  | 6 => { r with h := r.x6, x6 := r.h }
  | 7 => { r with l := r.x7, x7 := r.l }
  | _ => r
def Rg.swapTo (r : Rg) (m : Nat) : Nat → Rg
  | 0 => r
  | k + 1 => (r.swapTo m k).swapAt (m + k)
theorem Rg.swapTo_two (r : Rg) : r.swapTo 0 2 = r.swap false := rfl
theorem Rg.swapTo_six (r : Rg) : r.swapTo 2 6 = r.swap true := rfl
end Go.Proofs.YtljjgakfnajifaaGreatDoor
namespace Go.Proofs.YtljjgakfnajifaaGreatDoor
open Go.RowKit
theorem i64_and_low (x : Int) (k : Nat) (hk : k < 60) : bits .and .i64 x ((2 ^ k - 1 : Nat) : Int) = x % ((2 ^ k : Nat) : Int) := by
  have h2 : 2 ^ k ≤ 2 ^ 59 := Nat.pow_le_pow_right (by omega) (by omega)
  have h0 : 0 < 2 ^ k := Nat.two_pow_pos k
  have hd : ((2 ^ k : Nat) : Int) ∣ ((2 ^ 64 : Nat) : Int) := by
    refine Int.natCast_dvd_natCast.2 ?_
    exact Nat.pow_dvd_pow 2 (by omega)
  have e : (BitVec.ofInt 64 x &&& BitVec.ofInt 64 ((2 ^ k - 1 : Nat) : Int)).toNat = (x % ((2 ^ k : Nat) : Int)).toNat := by
    rw [BitVec.toNat_and, BitVec.toNat_ofInt, BitVec.toNat_ofInt]
    have e1 : (((2 ^ k - 1 : Nat) : Int) % ((2 ^ 64 : Nat) : Int)).toNat = 2 ^ k - 1 := by
      rw [Int.emod_eq_of_lt (by omega) (by omega), Int.toNat_natCast]
    rw [e1, Nat.and_two_pow_sub_one_eq_mod]
    have e2 := Int.emod_emod_of_dvd x hd
    have p1 := Int.emod_nonneg x (show ((2 ^ 64 : Nat) : Int) ≠ 0 by decide)
    obtain ⟨m, hm⟩ := Int.eq_ofNat_of_zero_le p1
    rw [hm] at e2 ⊢
    rw [← e2, Int.toNat_natCast, ← Int.natCast_emod, Int.toNat_natCast]
  show IntKind.i64.wrap ((BitVec.ofInt 64 x &&& BitVec.ofInt 64 ((2 ^ k - 1 : Nat) : Int)).toNat : Int) = _
  have p1 := Int.emod_nonneg x (show ((2 ^ k : Nat) : Int) ≠ 0 by omega)
  have p2 := Int.emod_lt_of_pos x (show 0 < ((2 ^ k : Nat) : Int) by omega)
  rw [e, IntWalk.i64_in _ (by omega)]
  omega
theorem i64_low2 (x : Int) : bits .and .i64 x 3 = x % 4 := i64_and_low x 2 (by omega)
theorem i64_low1 (x : Int) : bits .and .i64 x 1 = x % 2 := i64_and_low x 1 (by omega)
end Go.Proofs.YtljjgakfnajifaaGreatDoor
namespace Go.Proofs.YtljjgakfnajifaaGreatDoor
open Go.RowKit
theorem own_index {P : Program} {ops : Array Oper} {rest : List Oper} {o : Oper} {a : Act} {w : World} {Q : Exit → Act → World → Prop} {ty : TypeId} {x y : Operand} {v u r : Value} (ho : o.op = .index ty x y) (hx : a.eval x = v) (hy : a.eval y = u)
    (hrun : ∀ w, (Instr.index ty v u).run P w = .ok r w) (hw : Region.wanted o (yielded ops a.tmps) = true) (h : wpList P ops Q rest (a.put o.dst r) w) : wpList P ops Q (o :: rest) a w := by
  refine wpList_wanted hw fun K hK => ?_
  unfold Oper.wp execOp
  simp only [ho, hx, hy, Sem.run_bind, hrun, Result.andThen_ok]
  exact hK _ _ h
end Go.Proofs.YtljjgakfnajifaaGreatDoor
namespace Go.Proofs.YtljjgakfnajifaaGreatDoor
open Go.RowKit
theorem aggF : Agg Tryz.prog 118 8 := ⟨⟨_, Tryz.underlying118, rfl⟩, by kernel_rfl⟩
theorem zeroF : Zero Tryz.prog 118 [.bool false, .bool false, .bool false, .bool false, .bool false, .bool false, .bool false, .bool false] :=
  ⟨.agg #[.bool false, .bool false, .bool false, .bool false, .bool false, .bool false, .bool false, .bool false], fun _ => by kernel_rfl, rfl⟩
def flagsV (s z y h x p n c : Bool) : Value := .agg #[.bool s, .bool z, .bool y, .bool h, .bool x, .bool p, .bool n, .bool c]
theorem ret_truth' {a b : Bool} (h : a = b) : (Ending.returned (.bool a) : Ending) = .returned (.bool b) := by rw [h]
theorem bit_of (v k : Nat) (q : Int) (hq : q = ((v / k % 2 : Nat) : Int)) : (q == 1) = nBit k v := by
  rw [Bool.eq_iff_iff, beq_iff_eq]
  unfold nBit
  rw [Nat.beq_eq]
  show _ ↔ v / k % 2 = 1
  omega
theorem ge_of (v k : Nat) : decide ((k : Int) ≤ (v : Int)) = Nat.ble k v := by
  rw [Bool.eq_iff_iff, decide_eq_true_eq, Nat.ble_eq]; omega
theorem eq_of (v k : Nat) : ((v : Int) == (k : Int)) = Nat.beq v k := by
  rw [Bool.eq_iff_iff, beq_iff_eq, Nat.beq_eq]; omega
theorem flags_eq {a b c d e f g h a' b' c' d' e' f' g' h' : Bool} (e1 : a = a') (e2 : b = b') (e3 : c = c') (e4 : d = d') (e5 : e = e') (e6 : f = f') (e7 : g = g') (e8 : h = h') :
    (Ending.returned (.agg #[.bool a, .bool b, .bool c, .bool d, .bool e, .bool f, .bool g, .bool h]) : Ending) = .returned (flagsV a' b' c' d' e' f' g' h') := by subst e1 e2 e3 e4 e5 e6 e7 e8; rfl
set_option maxHeartbeats 800000 in
theorem of_at (f : Nat) (h : f < 256) (w : World) : Calls Tryz.prog 177 #[.int .u8 (f : Int)] w fun e w' =>
    e = .returned (flagsV (nBit 128 f) (nBit 64 f) (nBit 32 f) (nBit 16 f) (nBit 8 f) (nBit 4 f) (nBit 2 f) (nBit 1 f)) ∧ Below w.heap.size w w' := by
  have HM := Lib.hid (Own.start w)
  have tg1 : Hid True := trivial
  go_enter Tryz.func177, Tryz.ntmps177
  go_wp2_with (first
    | ((with_reducible apply own_box HM); exact rfl; (conv => lhs; whnf); exact rfl; exact rfl; (first | (clear tg1 HM; intro w' g1 HM) | (clear tg2 HM; intro w' g2 HM) | (clear tg3 HM; intro w' g3 HM) | (clear tg4 HM; intro w' g4 HM) | (clear HM; intro w' g' HM))) | ((with_reducible apply own_alloc HM); exact rfl; (first | (with_reducible exact zeroF)); exact rfl; (first | (clear tg1 HM; intro w' g1 HM) | (clear tg2 HM; intro w' g2 HM) | (clear tg3 HM; intro w' g3 HM) | (clear tg4 HM; intro w' g4 HM) | (clear HM; intro w' g' HM))) | ((with_reducible apply own_cell HM); exact rfl; exact rfl; (first | (with_reducible exact oneBool)); exact sS; exact dS; exact rfl) | ((with_reducible apply own_load HM); exact rfl; exact rfl; (first | (with_reducible exact aggF)); exact sS; exact dS; exact tS; exact rfl) | ((with_reducible apply own_store HM); exact rfl; exact rfl; (conv => lhs; whnf); exact rfl; exact sS; exact vS; exact sS; (first | (with_reducible exact (aggF).size) | (with_reducible exact (oneBool).size)); exact rfl; exact rfl; exact rfl; exact rfl; clear HM; intro w' HM))
  refine bodyPost_ret (v := .agg #[.bool _, .bool _, .bool _, .bool _, .bool _, .bool _, .bool _, .bool _]) (own_results HM Tryz.results177 _ rfl (by first | exact .z | exact .s .z) aggF) rfl ⟨?_, Own.fin HM⟩
  exact flags_eq (bit_of f 128 _ (by omega)) (bit_of f 64 _ (by omega)) (bit_of f 32 _ (by omega)) (bit_of f 16 _ (by omega)) (bit_of f 8 _ (by omega)) (bit_of f 4 _ (by omega)) (bit_of f 2 _ (by omega)) (bit_of f 1 _ (by omega))
end Go.Proofs.YtljjgakfnajifaaGreatDoor
namespace Go.Proofs.YtljjgakfnajifaaGreatDoor
open Go.RowKit
def bas (f a : Nat) : Nat := Nat.xor (a % 256 * f % 256) (a / 256 % 256)
theorem bas_lt (f a : Nat) : bas f a < 256 := Nat.xor_lt_two_pow (n := 8) (Nat.mod_lt _ (by decide)) (Nat.mod_lt _ (by decide))
def lay : (Nat → Nat) → Nat → List Nat → Nat → Nat
  | m, _, [] => m
  | m, a, y :: ys => lay (upd m a y) (up1 a) ys
theorem lay_end (m : Nat → Nat) (a y : Nat) (xs : List Nat) (ha : a < 65536) : lay m a (xs ++ [y]) = upd (lay m a xs) ((a + xs.length) % 65536) y := by
  induction xs generalizing m a with
  | nil => show upd m a y = upd m ((a + 0) % 65536) y; rw [Nat.add_zero, Nat.mod_eq_of_lt ha]
  | cons x xs ih =>
    show lay (upd m a x) (up1 a) (xs ++ [y]) = upd (lay (upd m a x) (up1 a) xs) ((a + (xs.length + 1)) % 65536) y
    rw [ih _ _ (up1_lt _)]
    have e : (up1 a + xs.length) % 65536 = (a + (xs.length + 1)) % 65536 := by unfold up1; omega
    rw [e]
theorem lay_at (m : Nat → Nat) (a i : Nat) (ys : List Nat) (ha : a < 65536) (hi : i < 65536) (hl : ys.length ≤ 65536) :
    lay m a ys i = if (i + 65536 - a) % 65536 < ys.length then ys.getD ((i + 65536 - a) % 65536) 0 else m i := by
  induction ys generalizing m a with
  | nil => show m i = _; rw [if_neg (by simp)]
  | cons y ys ih =>
    have hl' : ys.length + 1 ≤ 65536 := hl
    show lay (upd m a y) (up1 a) ys i = if _ < ys.length + 1 then _ else _
    rw [ih _ _ (up1_lt _) (by omega)]
    obtain ⟨d, hd⟩ : ∃ d, (i + 65536 - a) % 65536 = d := ⟨_, rfl⟩
    obtain ⟨d', hd'⟩ : ∃ d, (i + 65536 - up1 a) % 65536 = d := ⟨_, rfl⟩
    rw [hd, hd']
    unfold up1 at hd'
    cases d with
    | zero =>
      have h1 : i = a := by omega
      have h2 : d' = 65535 := by omega
      rw [if_neg (by omega), if_pos (by omega), h1]
      show upd m a y a = y
      exact if_pos rfl
    | succ k =>
      have h1 : ¬ i = a := by omega
      have h2 : d' = k := by omega
      subst h2
      have h3 : upd m a y i = m i := if_neg h1
      rw [h3]
      by_cases hk : d' < ys.length
      · rw [if_pos hk, if_pos (by omega)]; rfl
      · rw [if_neg hk, if_neg (by omega)]
theorem lay_lt (m : Nat → Nat) (a : Nat) (ys : List Nat) (hm : ∀ i, m i < 256) (hy : ∀ y ∈ ys, y < 256) (i : Nat) : lay m a ys i < 256 := by
  induction ys generalizing m a with
  | nil => exact hm i
  | cons y ys ih => exact ih _ _ (upd_lt hm a y (hy y (by simp))) (fun z hz => hy z (by simp [hz]))
theorem lay_zero (m : Nat → Nat) (i : Nat) (ys : List Nat) (hi : i < 65536) (hl : ys.length ≤ 65536) : lay m 0 ys i = if i < ys.length then ys.getD i 0 else m i := by
  rw [lay_at m 0 i ys (by decide) hi hl]
  have e : (i + 65536 - 0) % 65536 = i := by omega
  rw [e]
namespace Cs
def fetched (s : Cs) : Cs := ⟨{ s.r with dl := false, px := 0, pc := up1 s.r.pc, r := s.r.r / 128 * 128 + (s.r.r % 128 + 1) % 128 }, s.r.px, s.u.rd s.r.pc⟩
theorem begun_fetch (s : Cs) : s.begun.fetch = s.fetched := rfl
theorem step_eq (s : Cs) (o : Nat) (hm : s.m s.r.pc = o) (hh : s.r.ht = false) : s.step = s.fetched.perform o ∧ s.stepC = s.fetched.performC o := by
  have e : s.begun.nextV = o := hm
  unfold Cs.step Cs.stepC
  rw [hh, e]
  exact ⟨rfl, rfl⟩
theorem step_halted (s : Cs) (hh : s.r.ht = true) : s.step = s.tick ∧ s.stepC = 4 := by
  unfold Cs.step Cs.stepC
  rw [hh]
  exact ⟨rfl, rfl⟩
theorem do_prefix (s : Cs) (o : Nat) (ho : o = 221 ∨ o = 253) : s.perform o = s.setPX o ∧ s.performC o = 4 := by
  rcases ho with rfl | rfl
  · exact ⟨if_pos rfl, if_pos rfl⟩
  · exact ⟨(if_neg (by decide)).trans (if_pos rfl), (if_neg (by decide)).trans (if_pos rfl)⟩
theorem do_plain (s : Cs) (o : Nat) (h : o ≠ 221 ∧ o ≠ 253 ∧ o ≠ 237 ∧ o ≠ 203) : s.perform o = s.plain (xOf o) (yOf o) (zOf o) ∧ s.performC o = s.plainC (xOf o) (yOf o) (zOf o) :=
  ⟨(if_neg h.1).trans ((if_neg h.2.1).trans ((if_neg h.2.2.1).trans (if_neg h.2.2.2))), (if_neg h.1).trans ((if_neg h.2.1).trans ((if_neg h.2.2.1).trans (if_neg h.2.2.2)))⟩
theorem do_rare (s : Cs) : s.perform 237 = ((s.ahead 0).fetch).rare (xOf s.nextV) (yOf s.nextV) (zOf s.nextV) ∧ s.performC 237 = ((s.ahead 0).fetch).rareC (xOf s.nextV) (yOf s.nextV) (zOf s.nextV) :=
  ⟨(if_neg (by decide)).trans ((if_neg (by decide)).trans (if_pos rfl)), (if_neg (by decide)).trans ((if_neg (by decide)).trans (if_pos rfl))⟩
theorem do_incA (s : Cs) : s.perform 60 = (s.setA (nAddV s.r.a 1 0)).setF (nKeep (nAddF s.r.a 1 0) s.r.f) ∧ s.performC 60 = 4 := by
  exact ⟨rfl, rfl⟩
theorem do_djnz (s : Cs) : s.perform 16 = (s.setB s.decB).hop (decide (s.decB ≠ 0)) ∧ s.performC 16 = hopC (decide (s.decB ≠ 0)) 13 := by
  exact ⟨rfl, rfl⟩
theorem do_halt (s : Cs) : s.perform 118 = s.setHT true ∧ s.performC 118 = 4 := by
  exact ⟨rfl, rfl⟩
end Cs
end Go.Proofs.YtljjgakfnajifaaGreatDoor
