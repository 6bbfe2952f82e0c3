import Derived.ProofKit
import Derived.Test.YtijjigacmmhloaaRows
import Derived.WalkKit
import Derived.WalkSpells
import Derived.WalkLawsBesides
import Derived.Lib.Hide
import Derived.Laws.CopyOwn
import Derived.OpenShut
import Derived.ChangeOld
import Derived.Below
import Derived.Lib.SmallJoins
import Derived.Laws.Tables
import Derived.Laws.Rows
import Derived.Deep.MidRow
import Derived.OwnWalk
import Derived.Laws.OwnMore
import Derived.Laws.BitsAll
import Derived.Deep.Cut
import Derived.Deep.CutRange
import Derived.BigQuiet
import Derived.OrdersHeld
namespace Go.Proofs.Ytijjigacmmhloaa
open Go.RowKit
theorem sS {P : Prop} (h : P := by with_reducible first | exact .z | exact .s .z | exact .s (.s .z) | exact .s (.s (.s .z)) | exact .s (.s (.s (.s .z)))) : P := h
theorem dS {P : Prop} (h : P := by focus repeat' (first | with_reducible exact .z | with_reducible apply Drop.s)) : P := h
theorem tS {P : Prop} (h : P := by focus repeat' (first | with_reducible exact .z | with_reducible apply Take.s)) : P := h
theorem vS {P : Prop} (h : P := by focus repeat' (first | with_reducible exact .z | with_reducible apply Over.p | with_reducible apply Over.s)) : P := h
theorem bS {P : Prop} (h : P := by focus repeat' (first | assumption | omega | exact Int.natCast_nonneg _ | with_reducible apply or8i | with_reducible apply xor8i | with_reducible apply or8 | with_reducible apply xor8 | ((with_reducible apply and8i'); omega) | ((with_reducible apply and8'); omega) | with_reducible apply and8i | with_reducible apply and8)) : P := h
theorem oS {P : Prop} (h : P := by with_reducible first | exact oneU8 | exact oneU16 | exact oneBool | exact oneInt) : P := h
theorem wS {P : Prop} (h : P := by first | (with_reducible exact oneU8) | (with_reducible exact oneU16) | (with_reducible exact oneBool) | (with_reducible exact oneWorld)) : P := h
theorem xS {P : Prop} (h : P := by first | (with_reducible exact oneU8) | (with_reducible exact oneU16) | (with_reducible exact oneBool) | (with_reducible exact oneWp)) : P := h
theorem bS3 {P : Prop} (h : P := by first | (with_reducible exact oneU8) | (with_reducible exact oneU16) | (with_reducible exact oneBool)) : P := h
theorem zS {P : Prop} (h : P := by first | (with_reducible exact oneU8.size) | (with_reducible exact oneU16.size) | (with_reducible exact oneBool.size) | (with_reducible exact oneInt.size)) : P := h
theorem lS {P : Prop} (h : P := by first | exact Rg.cells_length _ | exact rfl) : P := h
theorem sc_S {P : Prop} (h : P := by first | exact sc0 | exact sc1 | exact sc2 | exact sc3 | exact sc4 | exact sc5 | exact sc6 | exact sc7 | exact sc16 | exact sc17 | exact sc18 | exact sc19 | exact sc20 | exact sc21 | exact sc22 | exact sc23 | exact sc24 | exact sc25 | exact sc26 | exact sc27 | exact sc28 | exact sc30) : P := h
theorem cgS {P : Prop} (h : P := by refine ⟨?_, ?_, ?_, ?_, ?_⟩; exact rfl; exact rfl; exact oneOf (by decide); exact rfl; exact rfl) : P := h
theorem crS {P : Prop} (h : P := by refine ⟨?_, ?_, ?_⟩; exact rfl; exact rfl; exact rfl) : P := h
theorem clS {P : Prop} (h : P := by refine ⟨?_, ?_, ?_, ?_, ?_, ?_⟩; exact rfl; exact rfl; (conv => lhs; whnf); exact rfl; exact rfl; exact rfl) : P := h
theorem cpS {P : Prop} (h : P := by refine ⟨?_, ?_, ?_, ?_, ?_, ?_, ?_, ?_, ?_⟩; exact rfl; exact rfl; exact rfl; exact sc_S; exact (oneOf (by decide)).size; exact rfl; exact rfl; (show (_ : Nat) < 31; decide); exact rfl) : P := h
def dotV (b0 b1 b2 b3 p : Nat) : Nat := b0 / p % 2 + 2 * (b1 / p % 2) + 4 * (b2 / p % 2) + 8 * (b3 / p % 2)
def Whole (w : World) (g : Nat) (t : TypeId) (cs : List Value) : Prop := w.heap[g]? = some (.cells cs.toArray t (0, 0))
section
variable {w w' : World} {g : Nat} {t : TypeId} {cs : List Value}
theorem Whole.inside (h : Whole w g t cs) : g < w.heap.size := by
  rcases Nat.lt_or_ge g w.heap.size with hlt | hge
  · exact hlt
  · unfold Whole at h; rw [Array.getElem?_eq_none hge] at h; cases h
theorem Whole.at_ (h : Whole w g t cs) (i : Nat) : w.cell? ⟨g, i, none⟩ = cs[i]? := by
  rw [cell_of_row w g i cs.toArray t (0, 0) h]; simp
theorem Whole.free (h : Whole w g t cs) (i : Nat) : w.frozen? ⟨g, i, none⟩ = false := by
  unfold Whole at h; simp [World.frozen?, h]
theorem Whole.fresh (w : World) (t : TypeId) (cs : List Value) : Whole (w.alloc (.cells cs.toArray t)) w.heap.size t cs := heap_alloc_new w _
theorem Whole.beside (h : Whole w g t cs) (o : Obj) : Whole (w.alloc o) g t cs := (Below.heap_alloc w o g h.inside).trans h
theorem Whole.put (h : Whole w g t cs) (i : Nat) (u : Value) : Whole (w.setCell ⟨g, i, none⟩ u) g t (cs.set i u) := by
  unfold Whole at h ⊢
  simp [World.setCell, Array.getElem?_modify, h]
theorem Whole.under {B : Nat} (h : Whole w g t cs) (hb : Below B w w') (hg : g < B) : Whole w' g t cs := (hb.block g hg).trans h
theorem Whole.grown {row : Option Nat} (h : Whole w g t cs) (hb : w.grownBy w' row) (hg : some g ≠ row) : Whole w' g t cs := (hb.block g h.inside hg).trans h
theorem Whole.apart {g' : Nat} {t' : TypeId} {cs' : List Value} (h : Whole w g t cs) (h' : Whole w g' t' cs') (hne : t ≠ t') : g ≠ g' := by
  rintro rfl
  unfold Whole at h h'
  rw [h] at h'
  injection h' with h'
  injection h' with _ ht
  exact hne ht
end
def u8s (zs : List Int) : List Value := zs.map (Value.int .u8)
@[simp] theorem u8s_length (zs : List Int) : (u8s zs).length = zs.length := by simp [u8s]
theorem u8s_get (zs : List Int) (i : Nat) : (u8s zs)[i]? = zs[i]?.map (Value.int .u8) := by simp [u8s]
def Bytes (w : World) (B : Nat) (a : Option Addr) (n : Nat) (zs : List Int) : Prop :=
  zs.length = n ∧ (0 < n → ∃ g o, a = some ⟨g, o, none⟩ ∧ g < B ∧ ∀ i, i < n → w.cell? ⟨g, o + i, none⟩ = some (.int .u8 (zs.getD i 0)))
section
variable {w w' : World} {B B' n : Nat} {a : Option Addr} {zs : List Int}
theorem Bytes.keep (h : Bytes w B a n zs) (hk : ∀ p : Addr, p.block < B → w'.cell? p = w.cell? p) : Bytes w' B a n zs :=
  ⟨h.1, fun hn => by
    obtain ⟨g, o, e, hg, hc⟩ := h.2 hn
    exact ⟨g, o, e, hg, fun i hi => (hk _ hg).trans (hc i hi)⟩⟩
theorem Bytes.under (h : Bytes w B a n zs) (hb : Below B w w') : Bytes w' B a n zs := h.keep fun _ hp => hb.cell hp
theorem Bytes.take (h : Bytes w B a n zs) (m : Nat) (hm : m ≤ n) : Bytes w B a m (zs.take m) := by
  refine ⟨by rw [List.length_take, h.1]; omega, fun hp => ?_⟩
  obtain ⟨g, o, e, hg, hc⟩ := h.2 (by omega)
  refine ⟨g, o, e, hg, fun i hi => ?_⟩
  rw [hc i (by omega)]
  simp [List.getD_eq_getElem?_getD, hi]
theorem Bytes.cells (h : Bytes w B a n zs) (hn : 0 < n) : ∃ ad, a = some ad ∧ ∀ j v, (u8s zs)[j]? = some v → w.cell? (ad.add j) = some v := by
  obtain ⟨g, o, e, hg, hc⟩ := h.2 hn
  refine ⟨_, e, fun j v hv => ?_⟩
  rw [u8s_get] at hv
  have hj : j < zs.length := by
    rcases Nat.lt_or_ge j zs.length with hlt | hge
    · exact hlt
    · rw [List.getElem?_eq_none hge] at hv; cases hv
  have ha : (⟨g, o, none⟩ : Addr).add j = ⟨g, o + j, none⟩ := by unfold Addr.add; split <;> simp_all
  rw [ha, hc j (by rw [← h.1]; exact hj)]
  simp [hj] at hv
  simp [List.getD_eq_getElem?_getD, hj, hv]
end
theorem setRow_grown (w : World) (g : Nat) (cs : Array Value) : w.grownBy (w.setRow g cs) (some g) :=
  ⟨rfl, rfl, rfl, by simp [World.setRow], fun k _ hne => setRow_other w g k cs (fun e => hne (by rw [e]))⟩
open Go.ChangeShapes Go.WideShapes Go.ChangeAt Go.RowKit Go.Joins
def ByteRow (w : World) (a : Option Addr) (n : Nat) (xs : Nat → Nat) : Prop :=
  0 < n → ∃ g o, a = some ⟨g, o, none⟩ ∧ g < w.heap.size ∧ ∀ i, i < n → w.cell? ⟨g, o + i, none⟩ = some (.int .u8 (xs i : Int)) ∧ xs i < 256
theorem byteRow_in {H : Type} {enc : TypeId × Value → H} {W : World} {b0 : Nat} {v : Value} {d : DataW H} {q : List MemPlace} (hv : Value.okWide Try.prog W .any b0 22 v) (h : DataW.Trod enc Try.prog W 0 (fun _ => true) true 22 v d q) :
    ∃ a n cap xs, v = .slice a n cap ∧ ByteRow W a n xs := by
  obtain ⟨a, n, cap, rfl⟩ := okWide_slice Try.underlying22 hv
  obtain ⟨fuel, hf⟩ := h
  rcases open_ints Try.underlying22 Try.underlying5 (by kernel_rfl) hf with ⟨hcs, _⟩ | ⟨ad, l, cp, zs, hcs, _, hl, hm, hz, _, hcell, hwf⟩
  · simp [Value.cells] at hcs
    obtain ⟨rfl, rfl, rfl⟩ := hcs
    exact ⟨none, 0, 0, fun _ => 0, rfl, fun h => absurd h (by omega)⟩
  · simp [Value.cells] at hcs
    obtain ⟨rfl, rfl, rfl⟩ := hcs
    simp at hz
    refine ⟨some ad, n, cap, fun i => (zs.getD i 0).toNat, rfl, fun hn => ?_⟩
    have h0 := hcell 0 (by omega)
    obtain ⟨g, o, s⟩ := ad
    have hs : s = none := by simpa [Addr.add] using World.cell?_spot h0
    subst hs
    have hg : g < W.heap.size := by
      have := World.block_lt_of_cell? W _ h0
      simpa [Addr.add] using this
    refine ⟨g, o, rfl, hg, fun i hi => ?_⟩
    have hi' := hcell i (by omega)
    have ha : (⟨g, o, none⟩ : Addr).add i = ⟨g, o + i, none⟩ := by unfold Addr.add; split <;> simp_all
    have e : zs.getD i 0 = zs[i]'(by omega) := by simp [List.getD_eq_getElem?_getD, show i < zs.length by omega]
    have hb := bounds_u8 (hwf (zs[i]'(by omega)) (List.getElem_mem _))
    rw [ha] at hi'
    show W.cell? ⟨g, o + i, none⟩ = some (.int .u8 (((zs.getD i 0).toNat : Nat) : Int)) ∧ (zs.getD i 0).toNat < 256
    rw [e]
    refine ⟨?_, by omega⟩
    rw [hi', Int.toNat_of_nonneg (by omega), e]
theorem grown_below {w w' : World} {B g : Nat} (h : w.grownBy w' (some g)) (hg : B ≤ g) (hB : B ≤ w.heap.size) : Below B w w' :=
  (Below.refl B w).grown h hB (fun k hk => by cases hk; exact hg)
theorem run_storeVar_cell {P : Program} (w : World) (g i : Nat) (ty : TypeId) (u v : Value) (hc : w.cell? ⟨g, i, none⟩ = some u) (hf : w.frozen? ⟨g, i, none⟩ = false)
    (hi : (P.info? ty).map (·.size) = some 1) (h1 : v.oneCell' = true) : (storeVar ty ⟨g, i, none⟩ v).run P w = .ok () (w.setCell ⟨g, i, none⟩ v) := by
  have hcs : v.cells = #[v] := by cases v <;> first | rfl | cases h1
  have hst : (store ((⟨g, i, none⟩ : Addr).add 0) v).run P w = .ok () (w.setCell ⟨g, i, none⟩ v) := by
    have hadd : (⟨g, i, none⟩ : Addr).add 0 = ⟨g, i, none⟩ := by unfold Addr.add; split <;> simp_all
    rw [hadd, run_store P w _ v _ h1, hc]
    simp [hf]
  cases hq : P.info? ty with
  | none => simp [hq] at hi
  | some q =>
    have hs : q.size = 1 := by simpa [hq] using hi
    simp [storeVar, sizeOf, typeInfo, hq, hcs, hs, storeCells, hst]
def i64s (zs : List Int) : List Value := zs.map (Value.int .i64)
@[simp] theorem i64s_length (zs : List Int) : (i64s zs).length = zs.length := by simp [i64s]
structure Own (W0 w : World) (l : List (Nat × TypeId × List Value)) : Prop where
  below : Below W0.heap.size W0 w
  whole : ∀ e ∈ l, W0.heap.size ≤ e.1 ∧ Whole w e.1 e.2.1 e.2.2
  apart : l.Pairwise fun e f => e.1 ≠ f.1
theorem Own.start (W : World) : Own W W [] := ⟨Below.refl _ _, by simp, .nil⟩
section
variable {W0 w w' : World} {l l' : List (Nat × TypeId × List Value)} {g : Nat} {t : TypeId} {cs cs' : List Value}
theorem Own.new (h : Own W0 w l) (t : TypeId) (cs : List Value) : Own W0 (w.alloc (.cells cs.toArray t)) ((w.heap.size, t, cs) :: l) := by
  refine ⟨h.below.alloc h.below.size _, ?_, ?_⟩
  · intro e he
    rcases List.mem_cons.1 he with rfl | he
    · exact ⟨h.below.size, Whole.fresh w t cs⟩
    · exact ⟨(h.whole e he).1, (h.whole e he).2.beside _⟩
  · refine .cons (fun e he => ?_) h.apart
    have := (h.whole e he).2.inside
    show w.heap.size ≠ e.1
    omega
theorem Own.call (h : Own W0 w l) (hb : Below w.heap.size w w') : Own W0 w' l :=
  ⟨h.below.trans (hb.mono h.below.size), fun e he => ⟨(h.whole e he).1, (h.whole e he).2.under hb (h.whole e he).2.inside⟩, h.apart⟩
theorem Own.drew (h : Own W0 w l) : Own W0 w.drew l := ⟨h.below.drew, fun e he => ⟨(h.whole e he).1, (h.whole e he).2⟩, h.apart⟩
theorem Own.forget {e : Nat × TypeId × List Value} (h : Own W0 w (e :: l)) : Own W0 w l := ⟨h.below, fun e he => h.whole e (by simp [he]), h.apart.of_cons⟩
end
inductive Sel : List (Nat × TypeId × List Value) → Nat → TypeId → List Value → Prop
  | z {l : List (Nat × TypeId × List Value)} {g : Nat} {t : TypeId} {cs : List Value} : Sel ((g, t, cs) :: l) g t cs
  | s {x : Nat × TypeId × List Value} {l : List (Nat × TypeId × List Value)} {g : Nat} {t : TypeId} {cs : List Value} : Sel l g t cs → Sel (x :: l) g t cs
inductive Put : List (Nat × TypeId × List Value) → Nat → TypeId → List Value → List Value → List (Nat × TypeId × List Value) → Prop
  | z {l : List (Nat × TypeId × List Value)} {g : Nat} {t : TypeId} {cs cs' : List Value} : Put ((g, t, cs) :: l) g t cs cs' ((g, t, cs') :: l)
  | s {x : Nat × TypeId × List Value} {l : List (Nat × TypeId × List Value)} {g : Nat} {t : TypeId} {cs cs' : List Value} {l' : List (Nat × TypeId × List Value)} : Put l g t cs cs' l' → Put (x :: l) g t cs cs' (x :: l')
inductive Drop : List Value → Nat → List Value → Prop
  | z {l : List Value} : Drop l 0 l
  | s {x : Value} {l : List Value} {n : Nat} {r : List Value} : Drop l n r → Drop (x :: l) (n + 1) r
inductive Take : List Value → Nat → List Value → Prop
  | z {l : List Value} : Take l 0 []
  | s {x : Value} {l : List Value} {n : Nat} {r : List Value} : Take l n r → Take (x :: l) (n + 1) (x :: r)
inductive Over : List Value → Nat → List Value → List Value → Prop
  | z {l : List Value} : Over l 0 [] l
  | p {x v : Value} {l vs r : List Value} : Over l 0 vs r → Over (x :: l) 0 (v :: vs) (v :: r)
  | s {x : Value} {l : List Value} {n : Nat} {vs r : List Value} : Over l n vs r → Over (x :: l) (n + 1) vs (x :: r)
section
variable {W0 w w' : World} {l l' : List (Nat × TypeId × List Value)} {g : Nat} {t : TypeId} {cs cs' : List Value}
theorem Sel.mem (h : Sel l g t cs) : (g, t, cs) ∈ l := by induction h <;> simp_all
theorem Put.mem (h : Put l g t cs cs' l') : (g, t, cs) ∈ l := by induction h <;> simp_all
theorem Put.mem' (h : Put l g t cs cs' l') : (g, t, cs') ∈ l' := by induction h <;> simp_all
theorem Put.all (h : Put l g t cs cs' l') : ∀ e ∈ l', e = (g, t, cs') ∨ e ∈ l := by
  induction h with
  | z => intro e he; rcases List.mem_cons.1 he with h | h <;> simp [h]
  | s _ ih =>
    intro e he
    rcases List.mem_cons.1 he with h | h
    · simp [h]
    · rcases ih e h with h | h <;> simp [h]
theorem Put.numbers (h : Put l g t cs cs' l') : l'.map (·.1) = l.map (·.1) := by induction h <;> simp_all
theorem Drop.eq {l r : List Value} {n : Nat} (h : Drop l n r) : l.drop n = r := by induction h <;> simp_all
theorem Take.eq {l r : List Value} {n : Nat} (h : Take l n r) : l.take n = r := by induction h <;> simp_all
theorem Take.len {l r : List Value} {n : Nat} (h : Take l n r) : r.length = n := by induction h <;> simp_all
theorem Over.eq {l vs r : List Value} {n : Nat} (h : Over l n vs r) : n + vs.length ≤ l.length ∧ l.take n ++ vs ++ l.drop (n + vs.length) = r := by
  induction h with
  | z => simp
  | p _ ih => simp only [Nat.zero_add, List.take_zero, List.nil_append, List.length_cons, List.drop_succ_cons] at ih ⊢; exact ⟨by omega, by simp [ih.2]⟩
  | s _ ih =>
    refine ⟨by simp only [List.length_cons]; omega, ?_⟩
    rename_i n vs r _
    rw [show n + 1 + vs.length = (n + vs.length) + 1 by omega, List.drop_succ_cons, List.take_succ_cons, List.cons_append, List.cons_append, ih.2]
theorem apart_of_numbers (l l' : List (Nat × TypeId × List Value)) (h : l'.map (·.1) = l.map (·.1)) (ha : l.Pairwise fun e f => e.1 ≠ f.1) : l'.Pairwise fun e f => e.1 ≠ f.1 := by
  have e1 : (l.map (·.1)).Pairwise (· ≠ ·) := List.pairwise_map.2 ha
  rw [← h] at e1
  exact List.pairwise_map.1 e1
theorem Own.of_row (h : Own W0 w l) (hp : Put l g t cs cs' l') : Own W0 (w.setRow g cs'.toArray) l' := by
  have hg := h.whole _ hp.mem
  refine ⟨h.below.trans (grown_below (setRow_grown w g _) hg.1 h.below.size), ?_, apart_of_numbers l l' hp.numbers h.apart⟩
  intro e he
  have hne : ∀ e ∈ l, e.1 = g → e = (g, t, cs) := by
    intro e he hEq
    rcases List.pairwise_iff_forall_sublist.1 h.apart with _
    by_cases hx : e = (g, t, cs)
    · exact hx
    · exfalso
      obtain ⟨i, hi, hie⟩ := List.getElem_of_mem he
      obtain ⟨j, hj, hje⟩ := List.getElem_of_mem hp.mem
      have hij : i ≠ j := by rintro rfl; rw [hie] at hje; exact hx hje
      have hpw := List.pairwise_iff_getElem.1 h.apart
      rcases Nat.lt_or_gt_of_ne hij with hlt | hgt
      · have := hpw i j hi hj hlt; rw [hie, hje] at this; exact this hEq
      · have := hpw j i hj hi hgt; rw [hie, hje] at this; exact this hEq.symm
  by_cases hx : e.1 = g
  · -- the block itself: the cells are the new ones
    rcases hp.all e he with rfl | hl
    · exact ⟨hg.1, setRow_heap w g _ _ t _ hg.2⟩
    · have e2 := hne e hl hx
      subst e2
      have hpw' := apart_of_numbers l l' hp.numbers h.apart
      -- both (g, t, cs) and (g, t, cs') would be in l'
      have hin := hp.mem'
      by_cases hs : cs = cs'
      · subst hs; exact ⟨hg.1, setRow_heap w g _ _ t _ hg.2⟩
      · exfalso
        obtain ⟨i, hi, hie⟩ := List.getElem_of_mem he
        obtain ⟨j, hj, hje⟩ := List.getElem_of_mem hin
        have hij : i ≠ j := by rintro rfl; rw [hie] at hje; injection hje with _ h2; injection h2 with _ h3; exact hs h3
        have hpw := List.pairwise_iff_getElem.1 hpw'
        rcases Nat.lt_or_gt_of_ne hij with hlt | hgt
        · have := hpw i j hi hj hlt; rw [hie, hje] at this; exact this rfl
        · have := hpw j i hj hi hgt; rw [hie, hje] at this; exact this rfl
  · rcases hp.all e he with rfl | hl
    · exact absurd rfl hx
    · exact ⟨(h.whole e hl).1, (h.whole e hl).2.grown (setRow_grown w g _) (fun k => hx (by cases k; rfl))⟩
theorem setCell_row (w : World) (g i : Nat) (t : TypeId) (cs : List Value) (v : Value) (hg : Whole w g t cs) : w.setCell ⟨g, i, none⟩ v = w.setRow g (cs.set i v).toArray := by
  rw [setCell_eq_setRow w g i cs.toArray t (0, 0) v hg, List.setIfInBounds_toArray]
theorem Own.of_cell (h : Own W0 w l) {v : Value} (i : Nat) (hp : Put l g t cs (cs.set i v) l') : Own W0 (w.setCell ⟨g, i, none⟩ v) l' := by
  rw [setCell_row w g i t cs v (h.whole _ hp.mem).2]
  exact h.of_row hp
theorem Own.at_ (h : Own W0 w l) (hs : Sel l g t cs) : Whole w g t cs := (h.whole _ hs.mem).2
end
def Agg (P : Program) (ty : TypeId) (n : Nat) : Prop := (∃ d, P.underlying ty = some d ∧ d.isRow = true) ∧ (P.info? ty).map (·.size) = some n
def One (P : Program) (ty : TypeId) : Prop := (∃ d, P.underlying ty = some d ∧ d.isRow = false) ∧ (P.info? ty).map (·.size) = some 1
def Size (P : Program) (ty : TypeId) (n : Nat) : Prop := (P.info? ty).map (·.size) = some n
def Zero (P : Program) (ty : TypeId) (vs : List Value) : Prop := ∃ z, (∀ w, (zeroValue ty).run P w = .ok z w) ∧ z.cells = vs.toArray
theorem Agg.size {P : Program} {ty : TypeId} {n : Nat} (h : Agg P ty n) : Size P ty n := h.2
theorem One.size {P : Program} {ty : TypeId} (h : One P ty) : Size P ty 1 := h.2
section
variable {P : Program} {W0 w : World} {l l' : List (Nat × TypeId × List Value)} {ops : Array Oper} {rest : List Oper} {o : Oper} {a : Act} {Q : Exit → Act → World → Prop}
theorem wpList_wanted (hw : Region.wanted o (yielded ops a.tmps) = true) (h : ∀ K : Act → World → Prop, (∀ a w, wpList P ops Q rest a w → K a w) → o.wp P a w K Q) : wpList P ops Q (o :: rest) a w :=
  wpList_step fun K hK => by rw [if_pos hw]; exact h K hK
theorem run_loadVar_one (w : World) (g i : Nat) (ty : TypeId) (v : Value) (hc : w.cell? ⟨g, i, none⟩ = some v) (h : One P ty) : (loadVar ty ⟨g, i, none⟩).run P w = .ok v w := by
  obtain ⟨⟨d, hu, hd⟩, _⟩ := h
  have hagg : (isAgg ty).run P w = .ok false w := by
    unfold isAgg
    rw [Sem.run_bind, run_underlying hu w]
    cases d <;> simp_all [TypeDesc.isRow]
  simp [loadVar, Sem.run_bind, hagg, hc]
theorem own_box {ty : TypeId} {x : Operand} {v : Value} {vs : List Value} (HM : Hid (Own W0 w l)) (ho : o.op = .box ty x) (hy : a.eval x = v) (hv : v.cells = vs.toArray) (hw : Region.wanted o (yielded ops a.tmps) = true)
    (h : ∀ w' g, Hid (Own W0 w' ((g, ty, vs) :: l)) → wpList P ops Q rest (a.put o.dst (.pointer (some ⟨g, 0, none⟩))) w') : wpList P ops Q (o :: rest) a w := by
  refine wpList_wanted hw fun K hK => ?_
  unfold Oper.wp execOp
  simp only [ho, Instr.box, newVar, newRow, newObj, hy, hv]
  exact hK _ _ (h _ _ (HM.out.new ty vs))
theorem own_alloc {ty : TypeId} {vs : List Value} (HM : Hid (Own W0 w l)) (ho : o.op = .alloc ty) (hz : Zero P ty vs) (hw : Region.wanted o (yielded ops a.tmps) = true)
    (h : ∀ w' g, Hid (Own W0 w' ((g, ty, vs) :: l)) → wpList P ops Q rest (a.put o.dst (.pointer (some ⟨g, 0, none⟩))) w') : wpList P ops Q (o :: rest) a w := by
  refine wpList_wanted hw fun K hK => ?_
  obtain ⟨z, hz, hv⟩ := hz
  unfold Oper.wp execOp
  simp only [ho, Instr.alloc, Sem.run_bind, hz, Result.andThen_ok, newVar, newRow, newObj, hv]
  exact hK _ _ (h _ _ (HM.out.new ty vs))
theorem own_load {ty t : TypeId} {x : Operand} {g off n : Nat} {cs r vs : List Value} (HM : Hid (Own W0 w l)) (ho : o.op = .load ty x) (hx : a.eval x = .pointer (some ⟨g, off, none⟩)) (hty : Agg P ty n)
    (hs : Sel l g t cs) (hd : Drop cs off r) (ht : Take r n vs) (hw : Region.wanted o (yielded ops a.tmps) = true)
    (h : wpList P ops Q rest (a.put o.dst (.agg vs.toArray)) w) : wpList P ops Q (o :: rest) a w := by
  refine wpList_wanted hw fun K hK => ?_
  obtain ⟨⟨d, hu, hr⟩, hsz⟩ := hty
  refine wp_load_mid ty x ho g off hx vs d ?_ hu hr (by rw [ht.len]; exact hsz) (hK _ _ h)
  intro j v hv
  rw [(HM.out.at_ hs).at_]
  have e1 := hd.eq
  have e2 := ht.eq
  subst e1 e2
  rw [List.getElem?_take] at hv
  split at hv
  · rwa [List.getElem?_drop] at hv
  · cases hv
theorem own_cell {ty t : TypeId} {x : Operand} {g off : Nat} {cs r : List Value} {v : Value} (HM : Hid (Own W0 w l)) (ho : o.op = .load ty x) (hx : a.eval x = .pointer (some ⟨g, off, none⟩)) (hty : One P ty)
    (hs : Sel l g t cs) (hd : Drop cs off (v :: r)) (hw : Region.wanted o (yielded ops a.tmps) = true)
    (h : wpList P ops Q rest (a.put o.dst v) w) : wpList P ops Q (o :: rest) a w := by
  refine wpList_wanted hw fun K hK => ?_
  have hc : w.cell? ⟨g, off, none⟩ = some v := by
    rw [(HM.out.at_ hs).at_]
    have e1 := hd.eq
    have : (cs.drop off)[0]? = some v := by rw [e1]; rfl
    simpa using this
  unfold Oper.wp execOp
  simp only [ho, hx, Instr.loadAt, Instr.sureAddr, Sem.run_bind, Sem.run_pure, Result.andThen_ok, run_loadVar_one w g off ty v hc hty]
  exact hK _ _ h
theorem own_store {ty t : TypeId} {x y : Operand} {v : Value} {g off n : Nat} {cs cs' vs : List Value} (HM : Hid (Own W0 w l)) (ho : o.op = .store ty x y) (hx : a.eval x = .pointer (some ⟨g, off, none⟩)) (hy : a.eval y = v) (hv : v.cells = vs.toArray)
    (_hsel : Sel l g t cs) (hov : Over cs off vs cs') (hs : Put l g t cs cs' l') (hty : Size P ty n) (hn : vs.length = n) (h1 : vs.all (·.oneCell') = true) (hw : Region.wanted o (yielded ops a.tmps) = true)
    (hd : o.dst = none) (h : ∀ w', Hid (Own W0 w' l') → wpList P ops Q rest a w') : wpList P ops Q (o :: rest) a w := by
  have h : ∀ w', Hid (Own W0 w' l') → wpList P ops Q rest (a.put o.dst undef) w' := by rw [hd]; exact h
  refine wpList_wanted hw fun K hK => ?_
  obtain ⟨ho1, ho2⟩ := hov.eq
  have hwh := (HM.out.whole _ hs.mem).2
  have hrun := run_storeCells_at P g off t vs 0 cs.toArray w hwh (by simpa using ho1) (List.all_eq_true.1 h1)
  simp only [Nat.add_zero, ho2] at hrun
  have hrun' : (storeVar ty ⟨g, off, none⟩ (a.eval y)).run P w = .ok () (w.setRow g cs'.toArray) := by
    unfold Size at hty
    cases hq : P.info? ty with
    | none => simp [hq] at hty
    | some i =>
      have hi : i.size = n := by simpa [hq] using hty
      simp [storeVar, sizeOf, typeInfo, hq, hy, hv, hi, hn, hrun]
  unfold Oper.wp execOp
  simp only [ho, hx, Instr.storeAt, Instr.sureAddr, Sem.run_bind, Sem.run_pure, Result.andThen_ok, hrun']
  exact hK _ _ (h _ (HM.out.of_row hs))
theorem own_put {ty t : TypeId} {x y : Operand} {v : Value} {g i : Nat} {cs : List Value} (HM : Hid (Own W0 w l)) (ho : o.op = .store ty x y) (hx : a.eval x = .pointer (some ⟨g, i, none⟩)) (hy : a.eval y = v)
    (hsel : Sel l g t cs) (hs : Put l g t cs (cs.set i v) l') (hty : Size P ty 1) (h1 : v.oneCell' = true) (hw : Region.wanted o (yielded ops a.tmps) = true) (hi : i < cs.length)
    (hd : o.dst = none) (h : ∀ w', Hid (Own W0 w' l') → wpList P ops Q rest a w') : wpList P ops Q (o :: rest) a w := by
  have h : ∀ w', Hid (Own W0 w' l') → wpList P ops Q rest (a.put o.dst undef) w' := by rw [hd]; exact h
  refine wpList_wanted hw fun K hK => ?_
  have hg := (HM.out.whole _ hsel.mem).2
  have hrun := run_storeVar_cell (P := P) w g i ty cs[i] v (by rw [hg.at_ i]; simp [hi]) (hg.free i) hty h1
  unfold Oper.wp execOp
  simp only [ho, hx, hy, Instr.storeAt, Instr.sureAddr, Sem.run_bind, Sem.run_pure, Result.andThen_ok, hrun]
  exact hK _ _ (h _ (HM.out.of_cell i hs))
theorem own_row {ty t : TypeId} {x : Operand} {g n : Nat} {cs : List Value} (HM : Hid (Own W0 w l)) (ho : o.op = .load ty x) (hx : a.eval x = .pointer (some ⟨g, 0, none⟩)) (hty : Agg P ty n)
    (hs : Sel l g t cs) (hw : Region.wanted o (yielded ops a.tmps) = true) (hl : cs.length = n)
    (h : wpList P ops Q rest (a.put o.dst (.agg cs.toArray)) w) : wpList P ops Q (o :: rest) a w := by
  refine wpList_wanted hw fun K hK => ?_
  obtain ⟨⟨d, hu, hr⟩, hsz⟩ := hty
  refine wp_load_mid ty x ho g 0 hx cs d ?_ hu hr (by rw [hl]; exact hsz) (hK _ _ h)
  intro j v hv
  rw [(HM.out.at_ hs).at_, Nat.zero_add]
  exact hv
theorem own_lay {ty t : TypeId} {x y : Operand} {g n : Nat} {cs vs : List Value} (HM : Hid (Own W0 w l)) (ho : o.op = .store ty x y) (hx : a.eval x = .pointer (some ⟨g, 0, none⟩)) (hv : a.eval y = .agg vs.toArray)
    (hsel : Sel l g t cs) (hs : Put l g t cs vs l') (hty : Size P ty n) (hn : vs.length = n) (hl : cs.length = n) (h1 : vs.all (·.oneCell') = true) (hw : Region.wanted o (yielded ops a.tmps) = true)
    (hd : o.dst = none) (h : ∀ w', Hid (Own W0 w' l') → wpList P ops Q rest a w') : wpList P ops Q (o :: rest) a w := by
  have h : ∀ w', Hid (Own W0 w' l') → wpList P ops Q rest (a.put o.dst undef) w' := by rw [hd]; exact h
  refine wpList_wanted hw fun K hK => ?_
  have hwh := (HM.out.whole _ hsel.mem).2
  exact wp_store_row ty x y ho g vs.toArray hx hv t cs.toArray hwh (by unfold Size at hty; simpa [hn] using hty) (by simp [hl, hn]) (by simpa using h1) (hK _ _ (h _ (HM.out.of_row hs)))
theorem own_old {ty : TypeId} {x : Operand} {p : Addr} {v : Value} (HM : Hid (Own W0 w l)) (ho : o.op = .load ty x) (hx : a.eval x = .pointer (some p)) (hty : One P ty)
    (hc : W0.cell? p = some v) (hp : p.spot = none) (hw : Region.wanted o (yielded ops a.tmps) = true) (h : wpList P ops Q rest (a.put o.dst v) w) : wpList P ops Q (o :: rest) a w := by
  refine wpList_wanted hw fun K hK => ?_
  have hc' : w.cell? p = some v := (HM.out.below.cell (block_lt_of_cell hc)).trans hc
  obtain ⟨g, off, s⟩ := p
  cases hp
  unfold Oper.wp execOp
  simp only [ho, hx, Instr.loadAt, Instr.sureAddr, Sem.run_bind, Sem.run_pure, Result.andThen_ok, run_loadVar_one w g off ty v hc' hty]
  exact hK _ _ h
theorem own_results {fn : Func} {p : Tmp} {ty t : TypeId} {g : Nat} {cs : List Value} (HM : Hid (Own W0 w l)) (h : fn.results = #[.cell p ty]) (tmps : Array Value) (hp : tmps.getD p undef = .pointer (some ⟨g, 0, none⟩)) (hs : Sel l g t cs)
    (hty : Agg P ty cs.length) : (results fn tmps).run P w = .ok (.agg cs.toArray) w := by
  obtain ⟨⟨d, hu, hr⟩, hsz⟩ := hty
  exact results_cell_row h tmps w g t cs.toArray (0, 0) d hp (HM.out.at_ hs) hu (by cases d <;> first | rfl | cases hr) (by simpa using hsz)
end
theorem ByteRow.under {w w' : World} {a : Option Addr} {n : Nat} {xs : Nat → Nat} (h : ByteRow w a n xs) (hb : Below w.heap.size w w') : ByteRow w' a n xs := by
  intro hn
  obtain ⟨g, o, rfl, hg, hc⟩ := h hn
  exact ⟨g, o, rfl, Nat.lt_of_lt_of_le hg hb.size, fun i hi => ⟨(hb.cell (p := ⟨g, o + i, none⟩) hg).trans (hc i hi).1, (hc i hi).2⟩⟩
theorem ByteRow.nil (w : World) (a : Option Addr) (xs : Nat → Nat) : ByteRow w a 0 xs := fun h => absurd h (by omega)
def vget (n : Nat) (xs : Nat → Nat) (k : Nat) : Nat := if k < n then xs k else 0
theorem vget_lt {w : World} {a : Option Addr} {n : Nat} {xs : Nat → Nat} (h : ByteRow w a n xs) (k : Nat) : vget n xs k < 256 := by
  unfold vget
  split
  · rename_i hk
    obtain ⟨g, o, -, -, hc⟩ := h (by omega)
    exact (hc k hk).2
  · omega
theorem oneInt : One Try.prog 3 := ⟨⟨_, Try.underlying3, rfl⟩, by kernel_rfl⟩
theorem oneBool : One Try.prog 4 := ⟨⟨_, Try.underlying4, rfl⟩, by kernel_rfl⟩
theorem oneU8 : One Try.prog 5 := ⟨⟨_, Try.underlying5, rfl⟩, by kernel_rfl⟩
theorem oneBs : One Try.prog 22 := ⟨⟨_, Try.underlying22, rfl⟩, by kernel_rfl⟩
theorem Own.fin {W0 w : World} {l : List (Nat × TypeId × List Value)} (h : Hid (Own W0 w l)) : Below W0.heap.size W0 w := h.out.below
section
variable {W0 w : World} {l : List (Nat × TypeId × List Value)} {ops : Array Oper} {rest : List Oper} {o : Oper} {a : Act} {Q : Exit → Act → World → Prop}
theorem own_makes {t e : TypeId} {x y : Operand} {u v : Value} {n m : Nat} {cs : List Value} (HM : Hid (Own W0 w l)) (ho : o.op = .makeSlice t x y) (hx : a.eval x = u) (hy : a.eval y = v)
    (hr : ∀ w, (Instr.makeSlice t u v).run Try.prog w = .ok (.slice (some ⟨w.heap.size, 0, none⟩) n m) (w.alloc (.cells cs.toArray e))) (hw : Region.wanted o (yielded ops a.tmps) = true)
    (h : ∀ w' g, Hid (Own W0 w' ((g, e, cs) :: l)) → wpList Try.prog ops Q rest (a.put o.dst (.slice (some ⟨g, 0, none⟩) n m)) w') : wpList Try.prog ops Q (o :: rest) a w := by
  refine wpList_wanted hw fun K hK => ?_
  unfold Oper.wp execOp
  simp only [ho, Sem.run_bind, hx, hy, hr]
  exact hK _ _ (h _ _ (HM.out.new e cs))
end
def b8 (m : Nat) (xs : Nat → Nat) : List Value := (List.range m).map fun i => .int .u8 (xs i : Int)
theorem b8_length (m : Nat) (xs : Nat → Nat) : (b8 m xs).length = m := by simp [b8]
theorem b8_get (m : Nat) (xs : Nat → Nat) (i : Nat) (h : i < m) : (b8 m xs)[i]? = some (.int .u8 (xs i : Int)) := by simp [b8, h]
def upd (xs : Nat → Nat) (k v : Nat) : Nat → Nat := fun i => if i = k then v else xs i
theorem b8_set (m : Nat) (xs : Nat → Nat) (k v : Nat) : (b8 m xs).set k (.int .u8 (v : Int)) = b8 m (upd xs k v) := by
  apply List.ext_getElem?
  intro i
  rw [List.getElem?_set]
  by_cases hi : i < m
  · rw [b8_get m _ i hi, b8_get m _ i hi, b8_length]
    unfold upd
    by_cases hk : k = i
    · subst hk; simp [hi]
    · rw [if_neg hk, if_neg (fun h => hk h.symm)]
  · have e1 : (b8 m xs)[i]? = none := by rw [List.getElem?_eq_none_iff, b8_length]; omega
    have e2 : (b8 m (upd xs k v))[i]? = none := by rw [List.getElem?_eq_none_iff, b8_length]; omega
    rw [e1, e2, b8_length]
    split
    · split <;> first | rfl | omega
    · rfl
theorem made_bytes (n : Nat) (h : n ≤ 2147483647) (w : World) :
    (Instr.makeSlice 22 (.int .i64 (n : Int)) (.int .i64 (n : Int))).run Try.prog w = .ok (.slice (some ⟨w.heap.size, 0, none⟩) n n) (w.alloc (.cells (b8 n (fun _ => 0)).toArray 5)) := by
  obtain ⟨i0, hi, hz0, hz1, hz2⟩ := info_parts (show (Try.prog.info? 5).map (fun i => (i.zero, i.size, i.bytes)) = some (some (.int .u8 0), 1, 1) by kernel_rfl)
  have hr := run_make (P := Try.prog) w 22 5 i0 (.int .u8 0) Try.underlying22 hi hz0 .i64 .i64 (n : Int) (n : Int) (by omega) (by omega) (by rw [hz2]; omega) (by omega)
  rw [hr]
  rw [Int.toNat_natCast, hz1, Nat.mul_one]
  congr 3
  apply Array.ext'
  rw [show (Value.int IntKind.u8 0).cells = #[Value.int IntKind.u8 0] from rfl, toList_madeCells_one]
  apply List.ext_getElem?
  intro i
  rw [List.getElem?_replicate]
  by_cases hi : i < n
  · rw [if_pos hi]
    show some (Value.int IntKind.u8 0) = (b8 n fun _ => 0)[i]?
    rw [b8_get n _ i hi]; rfl
  · rw [if_neg hi, eq_comm, List.getElem?_eq_none_iff]
    show (b8 n _).length ≤ i
    rw [b8_length]; omega
theorem Own.plus {W0 w w' : World} {l : List (Nat × TypeId × List Value)} {g : Nat} {t : TypeId} {cs : List Value} (h : Own W0 w l) (hb : Below w.heap.size w w') (hg : w.heap.size ≤ g) (hW : Whole w' g t cs) : Own W0 w' ((g, t, cs) :: l) := by
  have h' := h.call hb
  refine ⟨h'.below, ?_, ?_⟩
  · intro e he
    rcases List.mem_cons.1 he with rfl | he
    · exact ⟨Nat.le_trans h.below.size hg, hW⟩
    · exact h'.whole e he
  · refine .cons (fun e he => ?_) h'.apart
    have := (h.whole e he).2.inside
    show g ≠ e.1
    omega
theorem Own.swap2 {W0 w : World} {l : List (Nat × TypeId × List Value)} {x y : Nat × TypeId × List Value} (h : Own W0 w (x :: y :: l)) : Own W0 w (y :: x :: l) :=
  ⟨h.below, fun e he => h.whole e ((List.Perm.swap y x l).mem_iff.2 he), (List.Perm.pairwise_iff (fun h => Ne.symm h) (List.Perm.swap y x l)).1 h.apart⟩
theorem own_b8 {W0 w : World} {l : List (Nat × TypeId × List Value)} {ops : Array Oper} {rest : List Oper} {o : Oper} {a : Act} {Q : Exit → Act → World → Prop} {ty t : TypeId} {x y : Operand} {g m i v : Nat} {xs : Nat → Nat} (HM : Hid (Own W0 w ((g, t, b8 m xs) :: l))) (ho : o.op = .store ty x y) (hx : a.eval x = .pointer (some ⟨g, i, none⟩)) (hy : a.eval y = .int .u8 (v : Int))
    (hty : One Try.prog ty) (hi : i < m) (hw : Region.wanted o (yielded ops a.tmps) = true) (hd : o.dst = none) (h : ∀ w', Hid (Own W0 w' ((g, t, b8 m (upd xs i v)) :: l)) → wpList Try.prog ops Q rest a w') : wpList Try.prog ops Q (o :: rest) a w := by
  refine own_put (l' := (g, t, (b8 m xs).set i (.int .u8 (v : Int))) :: l) HM ho hx hy .z .z hty.size rfl hw (by rw [b8_length]; exact hi) hd fun w' HM' => h w' ?_
  rw [b8_set] at HM'
  exact HM'
theorem upd_lt {xs : Nat → Nat} (hx : ∀ i, xs i < 256) (k : Nat) {v : Nat} (hv : v < 256) : ∀ i, upd xs k v i < 256 := by
  intro i; unfold upd; split
  · exact hv
  · exact hx i
theorem Own.byteRow {W0 w : World} {l : List (Nat × TypeId × List Value)} {g : Nat} {t : TypeId} {n : Nat} {xs : Nat → Nat} (h : Own W0 w l) (hs : Sel l g t (b8 n xs)) (hx : ∀ i, xs i < 256) : ByteRow w (some ⟨g, 0, none⟩) n xs := by
  intro _
  have hw := (h.whole _ hs.mem).2
  exact ⟨g, 0, rfl, hw.inside, fun i hi => ⟨by rw [Nat.zero_add, hw.at_, b8_get n xs i hi], hx i⟩⟩
def baQ (r2 q c : Nat) : Nat := 1024 * (r2 / 2 % 8 * 2) + 64 * (q / 8) + 2 * (c / 8)
def baN (n : Nat) (xs : Nat → Nat) (r2 q c : Nat) : Nat := vget n xs (baQ r2 q c) + 256 * vget n xs (baQ r2 q c + 1)
def baR (h q : Nat) : Nat := if h / 2 % 2 = 1 then 7 - q % 8 else q % 8
def baC (h c : Nat) : Nat := if h % 2 = 1 then 7 - c % 8 else c % 8
def tDot (n : Nat) (xs : Nat → Nat) (e r i : Nat) : Nat := dotV (vget n xs (32 * e + 4 * r)) (vget n xs (32 * e + 4 * r + 1)) (vget n xs (32 * e + 4 * r + 2)) (vget n xs (32 * e + 4 * r + 3)) (2 ^ (7 - i))
def baD (n : Nat) (xs : Nat → Nat) (m q c : Nat) : Nat := tDot n xs (m % 512) (baR (m / 512 % 16) q) (baC (m / 512 % 16) c)
def baV (d h : Nat) : Nat := d + 16 * (h / 4 % 2)
def baF (d h : Nat) : Bool := decide (h / 8 = 1) && decide (0 < d)
def baCol (r0 r8 line x : Nat) : Nat := if r0 / 64 % 2 = 1 ∧ line < 16 then x else (x + 256 - r8) % 256
def baRow (r0 r9 line x : Nat) : Nat := if r0 / 128 = 1 ∧ 192 ≤ x then line else (line + r9) % 224
def gColor (n : Nat) (xs : Nat → Nat) (r0 r2 r8 r9 line x : Nat) : Nat :=
  baV (baD n xs (baN n xs r2 (baRow r0 r9 line x) (baCol r0 r8 line x)) (baRow r0 r9 line x) (baCol r0 r8 line x)) (baN n xs r2 (baRow r0 r9 line x) (baCol r0 r8 line x) / 512 % 16)
def gFront (n : Nat) (xs : Nat → Nat) (r0 r2 r8 r9 line x : Nat) : Bool :=
  baF (baD n xs (baN n xs r2 (baRow r0 r9 line x) (baCol r0 r8 line x)) (baRow r0 r9 line x) (baCol r0 r8 line x)) (baN n xs r2 (baRow r0 r9 line x) (baCol r0 r8 line x) / 512 % 16)
theorem dotV_lt (a b c d p : Nat) : dotV a b c d p < 16 := by unfold dotV; omega
theorem tDot_lt (n : Nat) (xs : Nat → Nat) (e r i : Nat) : tDot n xs e r i < 16 := dotV_lt _ _ _ _ _
theorem baD_lt (n : Nat) (xs : Nat → Nat) (m q c : Nat) : baD n xs m q c < 16 := tDot_lt _ _ _ _ _
theorem baV_lt {d : Nat} (h : Nat) (hd : d < 16) : baV d h < 32 := by unfold baV; omega
theorem gColor_lt (n : Nat) (xs : Nat → Nat) (r0 r2 r8 r9 line x : Nat) : gColor n xs r0 r2 r8 r9 line x < 32 := baV_lt _ (baD_lt _ _ _ _ _)
theorem baCol_lt {r0 r8 line x : Nat} (hx : x < 256) : baCol r0 r8 line x < 256 := by unfold baCol; split <;> omega
theorem baRow_lt {r0 r9 line x : Nat} (hl : line < 192) : baRow r0 r9 line x < 224 := by unfold baRow; split <;> omega
theorem baR_lt (h q : Nat) : baR h q < 8 := by unfold baR; split <;> omega
theorem baC_lt (h c : Nat) : baC h c < 8 := by unfold baC; split <;> omega
theorem baQ_lt (r2 q c : Nat) (hq : q < 224) (hc : c < 256) : baQ r2 q c ≤ 16126 := by unfold baQ; omega
def mem (n : Nat) (xs : Nat → Nat) (a : Nat) : Nat := vget n xs (a % 16384)
def spBase (r5 : Nat) : Nat := 128 * (r5 / 2 % 64 * 2)
def spH (r1 : Nat) : Nat := 8 * (1 + r1 / 2 % 2) * (1 + r1 % 2)
def spTop (y : Nat) : Int := if 240 < y + 1 then (y : Int) + 1 - 256 else (y : Int) + 1
def spIs (h : Nat) (line : Int) (y : Nat) : Bool := decide (spTop y ≤ line) && decide (line < spTop y + h)
def spFrom (Y : Nat → Nat) (h : Nat) (line : Int) : Nat → Nat → List Nat
  | 0, _ => []
  | k + 1, i => if Y i = 208 then [] else if spIs h line (Y i) = true then i :: spFrom Y h line k (i + 1) else spFrom Y h line k (i + 1)
def spAll (Y : Nat → Nat) (h : Nat) (line : Int) : List Nat := spFrom Y h line 64 0
def spY (n : Nat) (xs : Nat → Nat) (r5 i : Nat) : Nat := mem n xs (spBase r5 + i)
theorem spFrom_le (Y : Nat → Nat) (h : Nat) (line : Int) : ∀ k i, (spFrom Y h line k i).length ≤ k
  | 0, _ => by simp [spFrom]
  | k + 1, i => by
    have := spFrom_le Y h line k (i + 1)
    unfold spFrom
    split
    · simp
    · split
      · simp; omega
      · omega
theorem spFrom_lt (Y : Nat → Nat) (h : Nat) (line : Int) : ∀ k i, ∀ x ∈ spFrom Y h line k i, i ≤ x ∧ x < i + k
  | 0, i, x, hx => by simp [spFrom] at hx
  | k + 1, i, x, hx => by
    unfold spFrom at hx
    split at hx
    · simp at hx
    · split at hx
      · rcases List.mem_cons.1 hx with rfl | hx
        · omega
        · have := spFrom_lt Y h line k (i + 1) x hx; omega
      · have := spFrom_lt Y h line k (i + 1) x hx; omega
theorem spH_le (r1 : Nat) : 8 ≤ spH r1 ∧ spH r1 ≤ 32 := by
  unfold spH
  have h1 : r1 / 2 % 2 = 0 ∨ r1 / 2 % 2 = 1 := by omega
  have h2 : r1 % 2 = 0 ∨ r1 % 2 = 1 := by omega
  rcases h1 with h1 | h1 <;> rcases h2 with h2 | h2 <;> rw [h1, h2] <;> decide
theorem spBase_le (r5 : Nat) : spBase r5 ≤ 16128 := by unfold spBase; omega
def tAt (n : Nat) (xs : Nat → Nat) (e r i : Nat) : Nat := dotV (vget n xs (32 * (e % 512) + 4 * (r % 8))) (vget n xs (32 * (e % 512) + 4 * (r % 8) + 1)) (vget n xs (32 * (e % 512) + 4 * (r % 8) + 2)) (vget n xs (32 * (e % 512) + 4 * (r % 8) + 3)) (2 ^ (7 - i))
def spDotV (D : Nat → Nat → Nat → Nat) (r0 r1 r6 : Nat) (line : Int) (y X t x : Nat) : Nat :=
  if (x : Int) - ((X : Int) - 8 * (r0 / 8 % 2 : Nat)) < 0 ∨ (8 * (1 + r1 % 2) : Nat) ≤ (x : Int) - ((X : Int) - 8 * (r0 / 8 % 2 : Nat)) then 0
  else if 8 ≤ (line - spTop y).toNat / (1 + r1 % 2) then D ((if r1 / 2 % 2 = 1 then (t + 256 * (r6 / 4 % 2)) / 2 * 2 else t + 256 * (r6 / 4 % 2)) + 1) ((line - spTop y).toNat / (1 + r1 % 2) - 8) (((x : Int) - ((X : Int) - 8 * (r0 / 8 % 2 : Nat))).toNat / (1 + r1 % 2))
  else D (if r1 / 2 % 2 = 1 then (t + 256 * (r6 / 4 % 2)) / 2 * 2 else t + 256 * (r6 / 4 % 2)) ((line - spTop y).toNat / (1 + r1 % 2)) (((x : Int) - ((X : Int) - 8 * (r0 / 8 % 2 : Nat))).toNat / (1 + r1 % 2))
def spCol : List Nat → Nat
  | [] => 0
  | d :: ds => if d = 0 then spCol ds else 16 + d
def spCnt : List Nat → Nat
  | [] => 0
  | d :: ds => if d = 0 then spCnt ds else 1 + spCnt ds
def spDot (n : Nat) (xs : Nat → Nat) (r0 r1 r5 r6 : Nat) (line : Int) (x i : Nat) : Nat :=
  spDotV (tAt n xs) r0 r1 r6 line (mem n xs (spBase r5 + i)) (mem n xs (spBase r5 + 128 + 2 * i)) (mem n xs (spBase r5 + 129 + 2 * i)) x
def spL (n : Nat) (xs : Nat → Nat) (r1 r5 : Nat) (line : Int) : List Nat := spAll (spY n xs r5) (spH r1) line
def spDots (n : Nat) (xs : Nat → Nat) (r0 r1 r5 r6 : Nat) (line : Int) (x : Nat) : List Nat := ((spL n xs r1 r5 line).take 8).map (spDot n xs r0 r1 r5 r6 line x)
def spC (n : Nat) (xs : Nat → Nat) (r0 r1 r5 r6 : Nat) (line : Int) (x : Nat) : Nat := spCol (spDots n xs r0 r1 r5 r6 line x)
def spO (n : Nat) (xs : Nat → Nat) (r1 r5 : Nat) (line : Int) : Bool := decide (8 < (spL n xs r1 r5 line).length)
def spK (n : Nat) (xs : Nat → Nat) (r0 r1 r5 r6 : Nat) (line : Int) : Bool := (List.range 256).any fun x => decide (2 ≤ spCnt (spDots n xs r0 r1 r5 r6 line x))
theorem spCol_lt : ∀ l : List Nat, (∀ d ∈ l, d < 16) → spCol l < 32
  | [], _ => by simp [spCol]
  | d :: ds, h => by
    unfold spCol
    have h1 := h d (by simp)
    have h2 := spCol_lt ds fun x hx => h x (by simp [hx])
    split <;> omega
theorem tAt_lt (n : Nat) (xs : Nat → Nat) (e r i : Nat) : tAt n xs e r i < 16 := by unfold tAt dotV; omega
theorem spDotV_lt {D : Nat → Nat → Nat → Nat} (hD : ∀ e r i, D e r i < 16) (r0 r1 r6 : Nat) (line : Int) (y X t x : Nat) : spDotV D r0 r1 r6 line y X t x < 16 := by
  unfold spDotV
  split
  · omega
  · split <;> exact hD _ _ _
theorem spC_lt (n : Nat) (xs : Nat → Nat) (r0 r1 r5 r6 : Nat) (line : Int) (x : Nat) : spC n xs r0 r1 r5 r6 line x < 32 := by
  refine spCol_lt _ fun d hd => ?_
  obtain ⟨i, _, rfl⟩ := List.mem_map.1 hd
  exact spDotV_lt (tAt_lt n xs) _ _ _ _ _ _ _ _
def NumRow (w : World) (a : Option Addr) (L : List Nat) : Prop :=
  0 < L.length → ∃ g o, a = some ⟨g, o, none⟩ ∧ g < w.heap.size ∧ ∀ (i x : Nat), L[i]? = some x → w.cell? ⟨g, o + i, none⟩ = some (.int .i64 (x : Int))
theorem NumRow.under {w w' : World} {a : Option Addr} {L : List Nat} (h : NumRow w a L) (hb : Below w.heap.size w w') : NumRow w' a L := by
  intro hn
  obtain ⟨g, o, rfl, hg, hc⟩ := h hn
  exact ⟨g, o, rfl, Nat.lt_of_lt_of_le hg hb.size, fun i x hx => (hb.cell (p := ⟨g, o + i, none⟩) hg).trans (hc i x hx)⟩
theorem b8_ext {k : Nat} {f g : Nat → Nat} (h : ∀ i, i < k → f i = g i) : b8 k f = b8 k g := by
  unfold b8
  exact List.map_congr_left fun i hi => by rw [h i (List.mem_range.1 hi)]
def liP (m : Nat) (ys : Nat → Nat) (v : Nat) : Nat := vget m ys (v % 32) % 64
def liB (m : Nat) (ys : Nat → Nat) (r7 : Nat) : Nat := liP m ys (16 + r7 % 16)
def liN (n : Nat) (xs : Nat → Nat) (r0 r1 r2 r5 r6 r8 r9 line x : Nat) : Nat :=
  if spC n xs r0 r1 r5 r6 (line : Int) x = 0 ∨ gFront n xs r0 r2 r8 r9 line x = true then gColor n xs r0 r2 r8 r9 line x else spC n xs r0 r1 r5 r6 (line : Int) x
def liC (n : Nat) (xs : Nat → Nat) (m : Nat) (ys : Nat → Nat) (r0 r1 r2 r5 r6 r7 r8 r9 line x : Nat) : Nat :=
  if r1 / 64 % 2 = 0 ∨ (x < 8 ∧ r0 / 32 % 2 = 1) then liB m ys r7 else liP m ys (liN n xs r0 r1 r2 r5 r6 r8 r9 line x)
def liO (n : Nat) (xs : Nat → Nat) (r1 r5 : Nat) (line : Int) : Bool := decide (r1 / 64 % 2 = 1) && spO n xs r1 r5 line
def liK (n : Nat) (xs : Nat → Nat) (r0 r1 r5 r6 : Nat) (line : Int) : Bool := decide (r1 / 64 % 2 = 1) && spK n xs r0 r1 r5 r6 line
theorem liP_lt (m : Nat) (ys : Nat → Nat) (v : Nat) : liP m ys v < 64 := Nat.mod_lt _ (by decide)
theorem liC_lt (n : Nat) (xs : Nat → Nat) (m : Nat) (ys : Nat → Nat) (r0 r1 r2 r5 r6 r7 r8 r9 line x : Nat) : liC n xs m ys r0 r1 r2 r5 r6 r7 r8 r9 line x < 64 := by
  unfold liC
  split
  · exact liP_lt _ _ _
  · exact liP_lt _ _ _
theorem i64_mask (x : Int) (k : Nat) (m m1 : Nat) (hm : m = 2 ^ k - 1) (hm1 : (m1 : Int) = 2 ^ k) (hk : k < 32) : bits .and .i64 x (m : Int) = x % (m1 : Int) := by
  have hp : 2 ^ k < 2 ^ 32 := Nat.pow_lt_pow_right (by omega) hk
  have h1 : m1 = 2 ^ k := by exact_mod_cast hm1
  have hpos : 0 < 2 ^ k := Nat.pow_pos (by omega)
  have e : (BitVec.ofInt 64 x &&& BitVec.ofInt 64 (m : Int)).toNat = (x % (m1 : Int)).toNat := by
    rw [BitVec.toNat_and, BitVec.toNat_ofInt, BitVec.toNat_ofInt]
    rw [show ((m : Int) % ((2 ^ 64 : Nat) : Int)).toNat = 2 ^ k - 1 by rw [Int.emod_eq_of_lt (by omega) (by omega), Int.toNat_natCast, hm], Nat.and_two_pow_sub_one_eq_mod, ← h1]
    have hd : (m1 : Int) ∣ ((2 ^ 64 : Nat) : Int) := by rw [h1]; exact_mod_cast Nat.pow_dvd_pow 2 (by omega : k ≤ 64)
    have h0 : 0 ≤ x % ((2 ^ 64 : Nat) : Int) := Int.emod_nonneg _ (by decide)
    have h2 : ((x % ((2 ^ 64 : Nat) : Int)).toNat % m1 : Nat) = (((x % ((2 ^ 64 : Nat) : Int)).toNat : Int) % (m1 : Int)).toNat := by
      rw [← Int.natCast_emod, Int.toNat_natCast]
    rw [h2, Int.toNat_of_nonneg h0, Int.emod_emod_of_dvd _ hd]
  show IntKind.i64.wrap ((BitVec.ofInt 64 x &&& BitVec.ofInt 64 (m : Int)).toNat : Int) = _
  rw [e]
  have a0 : 0 ≤ x % (m1 : Int) := Int.emod_nonneg _ (by omega)
  have a1 : x % (m1 : Int) < (m1 : Int) := Int.emod_lt_of_pos _ (by omega)
  rw [IntWalk.i64_in _ (by omega)]
  omega
theorem mod_512 (n r : Int) (h : Hid (n % 512 = r)) (w : World) : Calls Try.prog 52 #[.int .i64 n, .int .i64 512] w fun e w' => e = .returned (.int .i64 r) ∧ w = w' := by
  have E : bits .and .i64 n 511 = r := (i64_mask n 9 511 512 (by decide) (by decide) (by decide)).trans h.out
  go_enter Try.func52, Try.ntmps52
  go_wp2
  go_ret
  exact ⟨rfl, rfl⟩
theorem mod_8 (n r : Int) (h : Hid (n % 8 = r)) (w : World) : Calls Try.prog 52 #[.int .i64 n, .int .i64 8] w fun e w' => e = .returned (.int .i64 r) ∧ w = w' := by
  have E : bits .and .i64 n 7 = r := (i64_mask n 3 7 8 (by decide) (by decide) (by decide)).trans h.out
  go_enter Try.func52, Try.ntmps52
  go_wp2
  go_ret
  exact ⟨rfl, rfl⟩
theorem mod_16384 (n r : Int) (h : Hid (n % 16384 = r)) (w : World) : Calls Try.prog 52 #[.int .i64 n, .int .i64 16384] w fun e w' => e = .returned (.int .i64 r) ∧ w = w' := by
  have E : bits .and .i64 n 16383 = r := (i64_mask n 14 16383 16384 (by decide) (by decide) (by decide)).trans h.out
  go_enter Try.func52, Try.ntmps52
  go_wp2
  go_ret
  exact ⟨rfl, rfl⟩
set_option maxRecDepth 100000 in
theorem at_at (a : Option Addr) (n cap : Nat) (xs : Nat → Nat) (p : Int) (k v : Nat) (hk : Hid (p % 16384 = (k : Int))) (hv : Hid (vget n xs k = v)) (w : World) (hV : ByteRow w a n xs) :
    Calls Try.prog 49 #[.slice a n cap, .int .i64 p] w fun e w' => e = .returned (.int .u8 (v : Int)) ∧ w = w' := by
  have h := hv.out
  have HK := hk
  have k1 : (k : Int) < 16384 := by have := hk.out; omega
  unfold vget at h
  by_cases hlt : k < n
  · rw [if_pos hlt] at h
    obtain ⟨g, o, rfl, hg, hc⟩ := hV (by omega)
    have hc' := (hc k hlt).1
    rw [h] at hc'
    have hlt' : (k : Int) < (n : Int) := by omega
    clear h hc hk hv hV hlt
    go_enter Try.func49, Try.ntmps49
    go_wp2_with (first | (go_at_call 52; (with_reducible refine (mod_16384 p k HK _).mono ?_); rintro e w' ⟨rfl, rfl⟩))
    go_ret
    exact ⟨rfl, rfl⟩
  · rw [if_neg hlt] at h
    have hge : (n : Int) ≤ (k : Int) := by omega
    subst h
    clear hk hv hV hlt
    go_enter Try.func49, Try.ntmps49
    go_wp2_with (first | (go_at_call 52; (with_reducible refine (mod_16384 p k HK _).mono ?_); rintro e w' ⟨rfl, rfl⟩))
    go_ret
    exact ⟨rfl, rfl⟩
abbrev regsV (r0 r1 r2 r3 r4 r5 r6 r7 r8 r9 r10 : Nat) : Value := .agg #[.int .u8 (r0 : Int), .int .u8 (r1 : Int), .int .u8 (r2 : Int), .int .u8 (r3 : Int), .int .u8 (r4 : Int), .int .u8 (r5 : Int), .int .u8 (r6 : Int), .int .u8 (r7 : Int), .int .u8 (r8 : Int), .int .u8 (r9 : Int), .int .u8 (r10 : Int)]
theorem agg11 : Agg Try.prog 27 11 := ⟨⟨_, Try.underlying27, rfl⟩, by kernel_rfl⟩
theorem one8 : One Try.prog 5 := ⟨⟨_, Try.underlying5, rfl⟩, by kernel_rfl⟩
theorem li_land63 : ∀ a, a < 256 → Nat.land a 63 = a % 64 := by decide +kernel
theorem li_land64 : ∀ a, a < 256 → Nat.land a 64 = 64 * (a / 64 % 2) := by decide +kernel
set_option maxRecDepth 100000 in
theorem paint_at (a : Option Addr) (n cap : Nat) (xs : Nat → Nat) (v : Int) (k p : Nat) (hk : Hid (v % 32 = (k : Int))) (hp : Hid (vget n xs k % 64 = p)) (w : World) (hV : ByteRow w a n xs) :
    Calls Try.prog 10 #[.slice a n cap, .int .i64 v] w fun e w' => e = .returned (.int .u8 (p : Int)) ∧ Below w.heap.size w w' := by
  have E : bits .and .i64 v 31 = (k : Int) := (i64_mask v 5 31 32 (by decide) (by decide) (by decide)).trans hk.out
  have k1 : (k : Int) < 32 := by have := hk.out; omega
  have h := hp.out
  unfold vget at h
  by_cases hlt : k < n
  · rw [if_pos hlt] at h
    obtain ⟨g, o, rfl, hg, hc⟩ := hV (by omega)
    have hc' := (hc k hlt).1
    have x8 := (hc k hlt).2
    obtain ⟨x, hx⟩ : ∃ x, xs k = x := ⟨_, rfl⟩
    rw [hx] at hc' x8 h
    have M : bits .and .u8 (x : Int) 63 = (p : Int) := ((u8_and_nat x 63 x8 (by decide)).trans (congrArg _ (li_land63 x x8))).trans (by rw [h])
    have hlt' : (k : Int) < (n : Int) := by omega
    have hlt2 : ¬ (n : Int) ≤ (k : Int) := by omega
    clear h hc hk hp hV hlt hx x8
    go_enter Try.func10, Try.ntmps10
    go_wp2
    go_ret
    exact ⟨rfl, Below.refl _ _⟩
  · rw [if_neg hlt] at h
    have hge : (n : Int) ≤ (k : Int) := by omega
    obtain rfl : 0 = p := by omega
    clear hk hp hV hlt h
    go_enter Try.func10, Try.ntmps10
    go_wp2
    go_ret
    exact ⟨rfl, Below.refl _ _⟩
theorem shows_at (r0 r1 r2 r3 r4 r5 r6 r7 r8 r9 r10 : Nat) (b1 : r1 < 256) (s : Bool) (hs : Hid (decide (r1 / 64 % 2 = 1) = s)) (w : World) :
    Calls Try.prog 18 #[regsV r0 r1 r2 r3 r4 r5 r6 r7 r8 r9 r10] w fun e w' => e = .returned (.bool s) ∧ Below w.heap.size w w' := by
  have HM := Lib.hid (Own.start w)
  have tg1 : Hid True := trivial
  have e1 : bits .and .u8 (r1 : Int) 64 = ((64 * (r1 / 64 % 2) : Nat) : Int) := (u8_and_nat r1 64 b1 (by decide)).trans (congrArg _ (li_land64 r1 b1))
  have es := hs.out
  rcases (show r1 / 64 % 2 = 0 ∨ r1 / 64 % 2 = 1 by omega) with k | k
  all_goals
    rw [k] at e1 es
    obtain rfl := es.symm
    clear hs k es
    go_enter Try.func18, Try.ntmps18
    go_wp2_with (first | ((with_reducible apply own_box HM); exact rfl; (conv => lhs; whnf); exact rfl; exact rfl; (first | (clear tg1 HM; intro w' g1 HM) | (clear tg2 HM; intro w' g2 HM) | (clear tg3 HM; intro w' g3 HM) | (clear tg4 HM; intro w' g4 HM) | (clear HM; intro w' g' HM))) | ((with_reducible apply own_cell HM); exact rfl; exact rfl; (first | (with_reducible exact one8) | (with_reducible exact oneInt)); exact sS; exact dS; exact rfl) | ((with_reducible apply own_load HM); exact rfl; exact rfl; (first | (with_reducible exact agg11)); exact sS; exact dS; exact tS; exact rfl) | ((with_reducible apply own_store HM); exact rfl; exact rfl; (conv => lhs; whnf); exact rfl; exact sS; exact vS; exact sS; (first | (with_reducible exact (agg11).size) | (with_reducible exact (one8).size) | (with_reducible exact (oneInt).size)); exact rfl; exact rfl; exact rfl; exact rfl; clear HM; intro w' HM))
    go_ret
    exact ⟨rfl, Own.fin HM⟩
theorem tmod_way (n b m : Int) (hb : 0 < b) (h : n % b = m) : (n.tmod b < 0 ∧ n.tmod b + b = m) ∨ (n.tmod b = m ∧ 0 ≤ m) := by
  have m0 : 0 ≤ m := by rw [← h]; exact Int.emod_nonneg _ (by omega)
  have m1 : m < b := by rw [← h]; exact Int.emod_lt_of_pos _ hb
  have e : n.tmod b = n % b - ((if 0 ≤ n ∨ b ∣ n then 0 else b.natAbs : Nat) : Int) := Int.tmod_eq_emod
  rw [h] at e
  split at e
  · right; exact ⟨by omega, m0⟩
  · left; omega
theorem rmod_at (n b m : Int) (hb : 0 < b) (hb2 : b ≤ 59736) (h : Hid (n % b = m)) (w : World) :
    Calls Try.prog 42 #[.int .i64 n, .int .i64 b] w fun e w' => e = .returned (.int .i64 m) ∧ w = w' := by
  have e := h.out
  have m0 : 0 ≤ m := by rw [← e]; exact Int.emod_nonneg _ (by omega)
  have m1 : m < b := by rw [← e]; exact Int.emod_lt_of_pos _ hb
  have hb0 : ¬ b = 0 := by omega
  rcases tmod_way n b m hb e with hq | hq
  · obtain ⟨q, hq1⟩ : ∃ q, n.tmod b = q := ⟨_, rfl⟩
    have q1 : q < 0 := by omega
    have q2 : q + b = m := by omega
    have q3 : -59736 ≤ q := by omega
    clear h e hq
    go_enter Try.func42, Try.ntmps42
    go_wp2
    go_ret
    exact ⟨rfl, rfl⟩
  · obtain ⟨hq1, hq2⟩ := hq
    clear h e
    go_enter Try.func42, Try.ntmps42
    go_wp2
    go_ret
    exact ⟨rfl, rfl⟩
set_option maxRecDepth 100000 in
theorem rat_at (a : Option Addr) (n cap : Nat) (xs : Nat → Nat) (p : Int) (k v : Nat) (hk : Hid (p % 16384 = (k : Int))) (hv : Hid (vget n xs k = v)) (w : World) (hV : ByteRow w a n xs) :
    Calls Try.prog 39 #[.slice a n cap, .int .i64 p] w fun e w' => e = .returned (.int .u8 (v : Int)) ∧ w = w' := by
  have h := hv.out
  have HK := hk
  have k1 : (k : Int) < 16384 := by have := hk.out; omega
  unfold vget at h
  by_cases hlt : k < n
  · rw [if_pos hlt] at h
    obtain ⟨g, o, rfl, hg, hc⟩ := hV (by omega)
    have hc' := (hc k hlt).1
    rw [h] at hc'
    have hlt' : (k : Int) < (n : Int) := by omega
    clear h hc hk hv hV hlt
    go_enter Try.func39, Try.ntmps39
    go_wp2_with (first | (go_at_call 42; (with_reducible refine (rmod_at p 16384 k (by decide) (by decide) HK _).mono ?_); rintro e w' ⟨rfl, rfl⟩))
    go_ret
    exact ⟨rfl, rfl⟩
  · rw [if_neg hlt] at h
    have hge : (n : Int) ≤ (k : Int) := by omega
    subst h
    clear hk hv hV hlt
    go_enter Try.func39, Try.ntmps39
    go_wp2_with (first | (go_at_call 42; (with_reducible refine (rmod_at p 16384 k (by decide) (by decide) HK _).mono ?_); rintro e w' ⟨rfl, rfl⟩))
    go_ret
    exact ⟨rfl, rfl⟩
set_option maxHeartbeats 800000 in
theorem rdot_0 (a : Option Addr) (n cap : Nat) (xs : Nat → Nat) (tile row T R : Int) (f b0 b1 b2 b3 d : Nat) (hT : Hid (tile % 512 = T)) (hR : Hid (row % 8 = R)) (hf : Hid (32 * T + 4 * R = (f : Int))) (hb0 : Hid (vget n xs f = b0)) (hb1 : Hid (vget n xs (f + 1) = b1)) (hb2 : Hid (vget n xs (f + 2) = b2)) (hb3 : Hid (vget n xs (f + 3) = b3)) (hd : Hid (dotV b0 b1 b2 b3 128 = d)) (w : World) (hV : ByteRow w a n xs) :
    Calls Try.prog 29 #[.slice a n cap, .int .i64 tile, .int .i64 row, .int .i64 0] w fun e w' => e = .returned (.int .u8 (d : Int)) ∧ w = w' := by
  have ef := hf.out
  have T0 : 0 ≤ T := by have := hT.out; omega
  have T1 : T < 512 := by have := hT.out; omega
  have R0 : 0 ≤ R := by have := hR.out; omega
  have R1 : R < 8 := by have := hR.out; omega
  have f1 : (f : Int) ≤ 16380 := by omega
  have hk0 : Hid ((f : Int) % 16384 = ((f : Nat) : Int)) := by show _ = _; omega
  have hk1 : Hid (((f : Int) + 1) % 16384 = ((f + 1 : Nat) : Int)) := by show _ = _; omega
  have hk2 : Hid (((f : Int) + 2) % 16384 = ((f + 2 : Nat) : Int)) := by show _ = _; omega
  have hk3 : Hid (((f : Int) + 3) % 16384 = ((f + 3 : Nat) : Int)) := by show _ = _; omega
  have B0 : b0 < 256 := by rw [← hb0.out]; exact vget_lt hV _
  have B1 : b1 < 256 := by rw [← hb1.out]; exact vget_lt hV _
  have B2 : b2 < 256 := by rw [← hb2.out]; exact vget_lt hV _
  have B3 : b3 < 256 := by rw [← hb3.out]; exact vget_lt hV _
  go_enter Try.func29, Try.ntmps29
  go_upto_region 3 with (first | (go_at_call 42; (with_reducible refine (rmod_at tile 512 T (by decide) (by decide) hT _).mono ?_); rintro e w' ⟨rfl, rfl⟩) | (go_at_call 42; (with_reducible refine (rmod_at row 8 R (by decide) (by decide) hR _).mono ?_); rintro e w' ⟨rfl, rfl⟩))
  obtain ⟨c0, hc0⟩ : ∃ c, b0 / 128 % 2 = c := ⟨_, rfl⟩
  obtain ⟨c1, hc1⟩ : ∃ c, b1 / 128 % 2 = c := ⟨_, rfl⟩
  obtain ⟨c2, hc2⟩ : ∃ c, b2 / 128 % 2 = c := ⟨_, rfl⟩
  obtain ⟨c3, hc3⟩ : ∃ c, b3 / 128 % 2 = c := ⟨_, rfl⟩
  have C0 : c0 < 2 := by omega
  have C1 : c1 < 2 := by omega
  have C2 : c2 < 2 := by omega
  have C3 : c3 < 2 := by omega
  have HD : Hid ((d : Int) = c0 + 2 * c1 + 4 * c2 + 8 * c3) := by
    show (d : Int) = _
    rw [← hd.out, ← hc0, ← hc1, ← hc2, ← hc3]; unfold dotV; omega
  have E0 : (b0 : Int) / 128 % 2 = c0 := by omega
  have E1 : (b1 : Int) / 128 % 2 = c1 := by omega
  have E2 : (b2 : Int) / 128 % 2 = c2 := by omega
  have E3 : (b3 : Int) / 128 % 2 = c3 := by omega
  clear hd hf hT hR T0 T1 R0 R1 ef hc0 hc1 hc2 hc3
  go_wp2_with fail
  go_loopw [10, 11] (fun ov pv wr => wr = w ∧ ∃ (x q : Int), ov = .int .u8 x ∧ pv = .int .i64 q ∧ Hid ((q = 3 ∧ x = 0) ∨ (q = 2 ∧ x = c3) ∨ (q = 1 ∧ x = 2 * (c3 : Int) + c2) ∨ (q = 0 ∧ x = 4 * (c3 : Int) + 2 * c2 + c1) ∨ (q = -1 ∧ x = 8 * (c3 : Int) + 4 * c2 + 2 * c1 + c0))) (fun _ pv _ => (1 + intOf pv).toNat)
  case atStart => exact ⟨rfl, 0, 3, rfl, rfl, .inl ⟨rfl, rfl⟩⟩
  case round =>
    obtain ⟨rfl, x, q, rfl, rfl, hx⟩ := hrel
    rcases hx.out with ⟨rfl, rfl⟩ | ⟨rfl, rfl⟩ | ⟨rfl, rfl⟩ | ⟨rfl, rfl⟩ | ⟨rfl, rfl⟩
    · go_wp2_with (first | (go_at_call 39; (with_reducible refine (rat_at a n cap xs _ (f + 3) _ hk3 hb3 _ hV).mono ?_); rintro e w' ⟨rfl, rfl⟩))
      go_roundw
      case rel => exact ⟨by trivial, _, _, rfl, rfl, by show (_ ∨ _); omega⟩
      case measure => simp [intOf]
    · go_wp2_with (first | (go_at_call 39; (with_reducible refine (rat_at a n cap xs _ (f + 2) _ hk2 hb2 _ hV).mono ?_); rintro e w' ⟨rfl, rfl⟩))
      go_roundw
      case rel => exact ⟨by trivial, _, _, rfl, rfl, by show (_ ∨ _); omega⟩
      case measure => simp [intOf]
    · go_wp2_with (first | (go_at_call 39; (with_reducible refine (rat_at a n cap xs _ (f + 1) _ hk1 hb1 _ hV).mono ?_); rintro e w' ⟨rfl, rfl⟩))
      go_roundw
      case rel => exact ⟨by trivial, _, _, rfl, rfl, by show (_ ∨ _); omega⟩
      case measure => simp [intOf]
    · go_wp2_with (first | (go_at_call 39; (with_reducible refine (rat_at a n cap xs _ f _ hk0 hb0 _ hV).mono ?_); rintro e w' ⟨rfl, rfl⟩))
      go_roundw
      case rel => exact ⟨by trivial, _, _, rfl, rfl, by show (_ ∨ _); omega⟩
      case measure => simp [intOf]
    · go_wp2_with fail
      go_ret
      exact ⟨congrArg (fun z => Ending.returned (.int .u8 z)) (by have := HD.out; omega), rfl⟩
set_option maxHeartbeats 800000 in
theorem rdot_1 (a : Option Addr) (n cap : Nat) (xs : Nat → Nat) (tile row T R : Int) (f b0 b1 b2 b3 d : Nat) (hT : Hid (tile % 512 = T)) (hR : Hid (row % 8 = R)) (hf : Hid (32 * T + 4 * R = (f : Int))) (hb0 : Hid (vget n xs f = b0)) (hb1 : Hid (vget n xs (f + 1) = b1)) (hb2 : Hid (vget n xs (f + 2) = b2)) (hb3 : Hid (vget n xs (f + 3) = b3)) (hd : Hid (dotV b0 b1 b2 b3 64 = d)) (w : World) (hV : ByteRow w a n xs) :
    Calls Try.prog 29 #[.slice a n cap, .int .i64 tile, .int .i64 row, .int .i64 1] w fun e w' => e = .returned (.int .u8 (d : Int)) ∧ w = w' := by
  have ef := hf.out
  have T0 : 0 ≤ T := by have := hT.out; omega
  have T1 : T < 512 := by have := hT.out; omega
  have R0 : 0 ≤ R := by have := hR.out; omega
  have R1 : R < 8 := by have := hR.out; omega
  have f1 : (f : Int) ≤ 16380 := by omega
  have hk0 : Hid ((f : Int) % 16384 = ((f : Nat) : Int)) := by show _ = _; omega
  have hk1 : Hid (((f : Int) + 1) % 16384 = ((f + 1 : Nat) : Int)) := by show _ = _; omega
  have hk2 : Hid (((f : Int) + 2) % 16384 = ((f + 2 : Nat) : Int)) := by show _ = _; omega
  have hk3 : Hid (((f : Int) + 3) % 16384 = ((f + 3 : Nat) : Int)) := by show _ = _; omega
  have B0 : b0 < 256 := by rw [← hb0.out]; exact vget_lt hV _
  have B1 : b1 < 256 := by rw [← hb1.out]; exact vget_lt hV _
  have B2 : b2 < 256 := by rw [← hb2.out]; exact vget_lt hV _
  have B3 : b3 < 256 := by rw [← hb3.out]; exact vget_lt hV _
  go_enter Try.func29, Try.ntmps29
  go_upto_region 3 with (first | (go_at_call 42; (with_reducible refine (rmod_at tile 512 T (by decide) (by decide) hT _).mono ?_); rintro e w' ⟨rfl, rfl⟩) | (go_at_call 42; (with_reducible refine (rmod_at row 8 R (by decide) (by decide) hR _).mono ?_); rintro e w' ⟨rfl, rfl⟩))
  obtain ⟨c0, hc0⟩ : ∃ c, b0 / 64 % 2 = c := ⟨_, rfl⟩
  obtain ⟨c1, hc1⟩ : ∃ c, b1 / 64 % 2 = c := ⟨_, rfl⟩
  obtain ⟨c2, hc2⟩ : ∃ c, b2 / 64 % 2 = c := ⟨_, rfl⟩
  obtain ⟨c3, hc3⟩ : ∃ c, b3 / 64 % 2 = c := ⟨_, rfl⟩
  have C0 : c0 < 2 := by omega
  have C1 : c1 < 2 := by omega
  have C2 : c2 < 2 := by omega
  have C3 : c3 < 2 := by omega
  have HD : Hid ((d : Int) = c0 + 2 * c1 + 4 * c2 + 8 * c3) := by
    show (d : Int) = _
    rw [← hd.out, ← hc0, ← hc1, ← hc2, ← hc3]; unfold dotV; omega
  have E0 : (b0 : Int) / 64 % 2 = c0 := by omega
  have E1 : (b1 : Int) / 64 % 2 = c1 := by omega
  have E2 : (b2 : Int) / 64 % 2 = c2 := by omega
  have E3 : (b3 : Int) / 64 % 2 = c3 := by omega
  clear hd hf hT hR T0 T1 R0 R1 ef hc0 hc1 hc2 hc3
  go_wp2_with fail
  go_loopw [10, 11] (fun ov pv wr => wr = w ∧ ∃ (x q : Int), ov = .int .u8 x ∧ pv = .int .i64 q ∧ Hid ((q = 3 ∧ x = 0) ∨ (q = 2 ∧ x = c3) ∨ (q = 1 ∧ x = 2 * (c3 : Int) + c2) ∨ (q = 0 ∧ x = 4 * (c3 : Int) + 2 * c2 + c1) ∨ (q = -1 ∧ x = 8 * (c3 : Int) + 4 * c2 + 2 * c1 + c0))) (fun _ pv _ => (1 + intOf pv).toNat)
  case atStart => exact ⟨rfl, 0, 3, rfl, rfl, .inl ⟨rfl, rfl⟩⟩
  case round =>
    obtain ⟨rfl, x, q, rfl, rfl, hx⟩ := hrel
    rcases hx.out with ⟨rfl, rfl⟩ | ⟨rfl, rfl⟩ | ⟨rfl, rfl⟩ | ⟨rfl, rfl⟩ | ⟨rfl, rfl⟩
    · go_wp2_with (first | (go_at_call 39; (with_reducible refine (rat_at a n cap xs _ (f + 3) _ hk3 hb3 _ hV).mono ?_); rintro e w' ⟨rfl, rfl⟩))
      go_roundw
      case rel => exact ⟨by trivial, _, _, rfl, rfl, by show (_ ∨ _); omega⟩
      case measure => simp [intOf]
    · go_wp2_with (first | (go_at_call 39; (with_reducible refine (rat_at a n cap xs _ (f + 2) _ hk2 hb2 _ hV).mono ?_); rintro e w' ⟨rfl, rfl⟩))
      go_roundw
      case rel => exact ⟨by trivial, _, _, rfl, rfl, by show (_ ∨ _); omega⟩
      case measure => simp [intOf]
    · go_wp2_with (first | (go_at_call 39; (with_reducible refine (rat_at a n cap xs _ (f + 1) _ hk1 hb1 _ hV).mono ?_); rintro e w' ⟨rfl, rfl⟩))
      go_roundw
      case rel => exact ⟨by trivial, _, _, rfl, rfl, by show (_ ∨ _); omega⟩
      case measure => simp [intOf]
    · go_wp2_with (first | (go_at_call 39; (with_reducible refine (rat_at a n cap xs _ f _ hk0 hb0 _ hV).mono ?_); rintro e w' ⟨rfl, rfl⟩))
      go_roundw
      case rel => exact ⟨by trivial, _, _, rfl, rfl, by show (_ ∨ _); omega⟩
      case measure => simp [intOf]
    · go_wp2_with fail
      go_ret
      exact ⟨congrArg (fun z => Ending.returned (.int .u8 z)) (by have := HD.out; omega), rfl⟩
set_option maxHeartbeats 800000 in
theorem rdot_2 (a : Option Addr) (n cap : Nat) (xs : Nat → Nat) (tile row T R : Int) (f b0 b1 b2 b3 d : Nat) (hT : Hid (tile % 512 = T)) (hR : Hid (row % 8 = R)) (hf : Hid (32 * T + 4 * R = (f : Int))) (hb0 : Hid (vget n xs f = b0)) (hb1 : Hid (vget n xs (f + 1) = b1)) (hb2 : Hid (vget n xs (f + 2) = b2)) (hb3 : Hid (vget n xs (f + 3) = b3)) (hd : Hid (dotV b0 b1 b2 b3 32 = d)) (w : World) (hV : ByteRow w a n xs) :
    Calls Try.prog 29 #[.slice a n cap, .int .i64 tile, .int .i64 row, .int .i64 2] w fun e w' => e = .returned (.int .u8 (d : Int)) ∧ w = w' := by
  have ef := hf.out
  have T0 : 0 ≤ T := by have := hT.out; omega
  have T1 : T < 512 := by have := hT.out; omega
  have R0 : 0 ≤ R := by have := hR.out; omega
  have R1 : R < 8 := by have := hR.out; omega
  have f1 : (f : Int) ≤ 16380 := by omega
  have hk0 : Hid ((f : Int) % 16384 = ((f : Nat) : Int)) := by show _ = _; omega
  have hk1 : Hid (((f : Int) + 1) % 16384 = ((f + 1 : Nat) : Int)) := by show _ = _; omega
  have hk2 : Hid (((f : Int) + 2) % 16384 = ((f + 2 : Nat) : Int)) := by show _ = _; omega
  have hk3 : Hid (((f : Int) + 3) % 16384 = ((f + 3 : Nat) : Int)) := by show _ = _; omega
  have B0 : b0 < 256 := by rw [← hb0.out]; exact vget_lt hV _
  have B1 : b1 < 256 := by rw [← hb1.out]; exact vget_lt hV _
  have B2 : b2 < 256 := by rw [← hb2.out]; exact vget_lt hV _
  have B3 : b3 < 256 := by rw [← hb3.out]; exact vget_lt hV _
  go_enter Try.func29, Try.ntmps29
  go_upto_region 3 with (first | (go_at_call 42; (with_reducible refine (rmod_at tile 512 T (by decide) (by decide) hT _).mono ?_); rintro e w' ⟨rfl, rfl⟩) | (go_at_call 42; (with_reducible refine (rmod_at row 8 R (by decide) (by decide) hR _).mono ?_); rintro e w' ⟨rfl, rfl⟩))
  obtain ⟨c0, hc0⟩ : ∃ c, b0 / 32 % 2 = c := ⟨_, rfl⟩
  obtain ⟨c1, hc1⟩ : ∃ c, b1 / 32 % 2 = c := ⟨_, rfl⟩
  obtain ⟨c2, hc2⟩ : ∃ c, b2 / 32 % 2 = c := ⟨_, rfl⟩
  obtain ⟨c3, hc3⟩ : ∃ c, b3 / 32 % 2 = c := ⟨_, rfl⟩
  have C0 : c0 < 2 := by omega
  have C1 : c1 < 2 := by omega
  have C2 : c2 < 2 := by omega
  have C3 : c3 < 2 := by omega
  have HD : Hid ((d : Int) = c0 + 2 * c1 + 4 * c2 + 8 * c3) := by
    show (d : Int) = _
    rw [← hd.out, ← hc0, ← hc1, ← hc2, ← hc3]; unfold dotV; omega
  have E0 : (b0 : Int) / 32 % 2 = c0 := by omega
  have E1 : (b1 : Int) / 32 % 2 = c1 := by omega
  have E2 : (b2 : Int) / 32 % 2 = c2 := by omega
  have E3 : (b3 : Int) / 32 % 2 = c3 := by omega
  clear hd hf hT hR T0 T1 R0 R1 ef hc0 hc1 hc2 hc3
  go_wp2_with fail
  go_loopw [10, 11] (fun ov pv wr => wr = w ∧ ∃ (x q : Int), ov = .int .u8 x ∧ pv = .int .i64 q ∧ Hid ((q = 3 ∧ x = 0) ∨ (q = 2 ∧ x = c3) ∨ (q = 1 ∧ x = 2 * (c3 : Int) + c2) ∨ (q = 0 ∧ x = 4 * (c3 : Int) + 2 * c2 + c1) ∨ (q = -1 ∧ x = 8 * (c3 : Int) + 4 * c2 + 2 * c1 + c0))) (fun _ pv _ => (1 + intOf pv).toNat)
  case atStart => exact ⟨rfl, 0, 3, rfl, rfl, .inl ⟨rfl, rfl⟩⟩
  case round =>
    obtain ⟨rfl, x, q, rfl, rfl, hx⟩ := hrel
    rcases hx.out with ⟨rfl, rfl⟩ | ⟨rfl, rfl⟩ | ⟨rfl, rfl⟩ | ⟨rfl, rfl⟩ | ⟨rfl, rfl⟩
    · go_wp2_with (first | (go_at_call 39; (with_reducible refine (rat_at a n cap xs _ (f + 3) _ hk3 hb3 _ hV).mono ?_); rintro e w' ⟨rfl, rfl⟩))
      go_roundw
      case rel => exact ⟨by trivial, _, _, rfl, rfl, by show (_ ∨ _); omega⟩
      case measure => simp [intOf]
    · go_wp2_with (first | (go_at_call 39; (with_reducible refine (rat_at a n cap xs _ (f + 2) _ hk2 hb2 _ hV).mono ?_); rintro e w' ⟨rfl, rfl⟩))
      go_roundw
      case rel => exact ⟨by trivial, _, _, rfl, rfl, by show (_ ∨ _); omega⟩
      case measure => simp [intOf]
    · go_wp2_with (first | (go_at_call 39; (with_reducible refine (rat_at a n cap xs _ (f + 1) _ hk1 hb1 _ hV).mono ?_); rintro e w' ⟨rfl, rfl⟩))
      go_roundw
      case rel => exact ⟨by trivial, _, _, rfl, rfl, by show (_ ∨ _); omega⟩
      case measure => simp [intOf]
    · go_wp2_with (first | (go_at_call 39; (with_reducible refine (rat_at a n cap xs _ f _ hk0 hb0 _ hV).mono ?_); rintro e w' ⟨rfl, rfl⟩))
      go_roundw
      case rel => exact ⟨by trivial, _, _, rfl, rfl, by show (_ ∨ _); omega⟩
      case measure => simp [intOf]
    · go_wp2_with fail
      go_ret
      exact ⟨congrArg (fun z => Ending.returned (.int .u8 z)) (by have := HD.out; omega), rfl⟩
set_option maxHeartbeats 800000 in
theorem rdot_3 (a : Option Addr) (n cap : Nat) (xs : Nat → Nat) (tile row T R : Int) (f b0 b1 b2 b3 d : Nat) (hT : Hid (tile % 512 = T)) (hR : Hid (row % 8 = R)) (hf : Hid (32 * T + 4 * R = (f : Int))) (hb0 : Hid (vget n xs f = b0)) (hb1 : Hid (vget n xs (f + 1) = b1)) (hb2 : Hid (vget n xs (f + 2) = b2)) (hb3 : Hid (vget n xs (f + 3) = b3)) (hd : Hid (dotV b0 b1 b2 b3 16 = d)) (w : World) (hV : ByteRow w a n xs) :
    Calls Try.prog 29 #[.slice a n cap, .int .i64 tile, .int .i64 row, .int .i64 3] w fun e w' => e = .returned (.int .u8 (d : Int)) ∧ w = w' := by
  have ef := hf.out
  have T0 : 0 ≤ T := by have := hT.out; omega
  have T1 : T < 512 := by have := hT.out; omega
  have R0 : 0 ≤ R := by have := hR.out; omega
  have R1 : R < 8 := by have := hR.out; omega
  have f1 : (f : Int) ≤ 16380 := by omega
  have hk0 : Hid ((f : Int) % 16384 = ((f : Nat) : Int)) := by show _ = _; omega
  have hk1 : Hid (((f : Int) + 1) % 16384 = ((f + 1 : Nat) : Int)) := by show _ = _; omega
  have hk2 : Hid (((f : Int) + 2) % 16384 = ((f + 2 : Nat) : Int)) := by show _ = _; omega
  have hk3 : Hid (((f : Int) + 3) % 16384 = ((f + 3 : Nat) : Int)) := by show _ = _; omega
  have B0 : b0 < 256 := by rw [← hb0.out]; exact vget_lt hV _
  have B1 : b1 < 256 := by rw [← hb1.out]; exact vget_lt hV _
  have B2 : b2 < 256 := by rw [← hb2.out]; exact vget_lt hV _
  have B3 : b3 < 256 := by rw [← hb3.out]; exact vget_lt hV _
  go_enter Try.func29, Try.ntmps29
  go_upto_region 3 with (first | (go_at_call 42; (with_reducible refine (rmod_at tile 512 T (by decide) (by decide) hT _).mono ?_); rintro e w' ⟨rfl, rfl⟩) | (go_at_call 42; (with_reducible refine (rmod_at row 8 R (by decide) (by decide) hR _).mono ?_); rintro e w' ⟨rfl, rfl⟩))
  obtain ⟨c0, hc0⟩ : ∃ c, b0 / 16 % 2 = c := ⟨_, rfl⟩
  obtain ⟨c1, hc1⟩ : ∃ c, b1 / 16 % 2 = c := ⟨_, rfl⟩
  obtain ⟨c2, hc2⟩ : ∃ c, b2 / 16 % 2 = c := ⟨_, rfl⟩
  obtain ⟨c3, hc3⟩ : ∃ c, b3 / 16 % 2 = c := ⟨_, rfl⟩
  have C0 : c0 < 2 := by omega
  have C1 : c1 < 2 := by omega
  have C2 : c2 < 2 := by omega
  have C3 : c3 < 2 := by omega
  have HD : Hid ((d : Int) = c0 + 2 * c1 + 4 * c2 + 8 * c3) := by
    show (d : Int) = _
    rw [← hd.out, ← hc0, ← hc1, ← hc2, ← hc3]; unfold dotV; omega
  have E0 : (b0 : Int) / 16 % 2 = c0 := by omega
  have E1 : (b1 : Int) / 16 % 2 = c1 := by omega
  have E2 : (b2 : Int) / 16 % 2 = c2 := by omega
  have E3 : (b3 : Int) / 16 % 2 = c3 := by omega
  clear hd hf hT hR T0 T1 R0 R1 ef hc0 hc1 hc2 hc3
  go_wp2_with fail
  go_loopw [10, 11] (fun ov pv wr => wr = w ∧ ∃ (x q : Int), ov = .int .u8 x ∧ pv = .int .i64 q ∧ Hid ((q = 3 ∧ x = 0) ∨ (q = 2 ∧ x = c3) ∨ (q = 1 ∧ x = 2 * (c3 : Int) + c2) ∨ (q = 0 ∧ x = 4 * (c3 : Int) + 2 * c2 + c1) ∨ (q = -1 ∧ x = 8 * (c3 : Int) + 4 * c2 + 2 * c1 + c0))) (fun _ pv _ => (1 + intOf pv).toNat)
  case atStart => exact ⟨rfl, 0, 3, rfl, rfl, .inl ⟨rfl, rfl⟩⟩
  case round =>
    obtain ⟨rfl, x, q, rfl, rfl, hx⟩ := hrel
    rcases hx.out with ⟨rfl, rfl⟩ | ⟨rfl, rfl⟩ | ⟨rfl, rfl⟩ | ⟨rfl, rfl⟩ | ⟨rfl, rfl⟩
    · go_wp2_with (first | (go_at_call 39; (with_reducible refine (rat_at a n cap xs _ (f + 3) _ hk3 hb3 _ hV).mono ?_); rintro e w' ⟨rfl, rfl⟩))
      go_roundw
      case rel => exact ⟨by trivial, _, _, rfl, rfl, by show (_ ∨ _); omega⟩
      case measure => simp [intOf]
    · go_wp2_with (first | (go_at_call 39; (with_reducible refine (rat_at a n cap xs _ (f + 2) _ hk2 hb2 _ hV).mono ?_); rintro e w' ⟨rfl, rfl⟩))
      go_roundw
      case rel => exact ⟨by trivial, _, _, rfl, rfl, by show (_ ∨ _); omega⟩
      case measure => simp [intOf]
    · go_wp2_with (first | (go_at_call 39; (with_reducible refine (rat_at a n cap xs _ (f + 1) _ hk1 hb1 _ hV).mono ?_); rintro e w' ⟨rfl, rfl⟩))
      go_roundw
      case rel => exact ⟨by trivial, _, _, rfl, rfl, by show (_ ∨ _); omega⟩
      case measure => simp [intOf]
    · go_wp2_with (first | (go_at_call 39; (with_reducible refine (rat_at a n cap xs _ f _ hk0 hb0 _ hV).mono ?_); rintro e w' ⟨rfl, rfl⟩))
      go_roundw
      case rel => exact ⟨by trivial, _, _, rfl, rfl, by show (_ ∨ _); omega⟩
      case measure => simp [intOf]
    · go_wp2_with fail
      go_ret
      exact ⟨congrArg (fun z => Ending.returned (.int .u8 z)) (by have := HD.out; omega), rfl⟩
set_option maxHeartbeats 800000 in
theorem rdot_4 (a : Option Addr) (n cap : Nat) (xs : Nat → Nat) (tile row T R : Int) (f b0 b1 b2 b3 d : Nat) (hT : Hid (tile % 512 = T)) (hR : Hid (row % 8 = R)) (hf : Hid (32 * T + 4 * R = (f : Int))) (hb0 : Hid (vget n xs f = b0)) (hb1 : Hid (vget n xs (f + 1) = b1)) (hb2 : Hid (vget n xs (f + 2) = b2)) (hb3 : Hid (vget n xs (f + 3) = b3)) (hd : Hid (dotV b0 b1 b2 b3 8 = d)) (w : World) (hV : ByteRow w a n xs) :
    Calls Try.prog 29 #[.slice a n cap, .int .i64 tile, .int .i64 row, .int .i64 4] w fun e w' => e = .returned (.int .u8 (d : Int)) ∧ w = w' := by
  have ef := hf.out
  have T0 : 0 ≤ T := by have := hT.out; omega
  have T1 : T < 512 := by have := hT.out; omega
  have R0 : 0 ≤ R := by have := hR.out; omega
  have R1 : R < 8 := by have := hR.out; omega
  have f1 : (f : Int) ≤ 16380 := by omega
  have hk0 : Hid ((f : Int) % 16384 = ((f : Nat) : Int)) := by show _ = _; omega
  have hk1 : Hid (((f : Int) + 1) % 16384 = ((f + 1 : Nat) : Int)) := by show _ = _; omega
  have hk2 : Hid (((f : Int) + 2) % 16384 = ((f + 2 : Nat) : Int)) := by show _ = _; omega
  have hk3 : Hid (((f : Int) + 3) % 16384 = ((f + 3 : Nat) : Int)) := by show _ = _; omega
  have B0 : b0 < 256 := by rw [← hb0.out]; exact vget_lt hV _
  have B1 : b1 < 256 := by rw [← hb1.out]; exact vget_lt hV _
  have B2 : b2 < 256 := by rw [← hb2.out]; exact vget_lt hV _
  have B3 : b3 < 256 := by rw [← hb3.out]; exact vget_lt hV _
  go_enter Try.func29, Try.ntmps29
  go_upto_region 3 with (first | (go_at_call 42; (with_reducible refine (rmod_at tile 512 T (by decide) (by decide) hT _).mono ?_); rintro e w' ⟨rfl, rfl⟩) | (go_at_call 42; (with_reducible refine (rmod_at row 8 R (by decide) (by decide) hR _).mono ?_); rintro e w' ⟨rfl, rfl⟩))
  obtain ⟨c0, hc0⟩ : ∃ c, b0 / 8 % 2 = c := ⟨_, rfl⟩
  obtain ⟨c1, hc1⟩ : ∃ c, b1 / 8 % 2 = c := ⟨_, rfl⟩
  obtain ⟨c2, hc2⟩ : ∃ c, b2 / 8 % 2 = c := ⟨_, rfl⟩
  obtain ⟨c3, hc3⟩ : ∃ c, b3 / 8 % 2 = c := ⟨_, rfl⟩
  have C0 : c0 < 2 := by omega
  have C1 : c1 < 2 := by omega
  have C2 : c2 < 2 := by omega
  have C3 : c3 < 2 := by omega
  have HD : Hid ((d : Int) = c0 + 2 * c1 + 4 * c2 + 8 * c3) := by
    show (d : Int) = _
    rw [← hd.out, ← hc0, ← hc1, ← hc2, ← hc3]; unfold dotV; omega
  have E0 : (b0 : Int) / 8 % 2 = c0 := by omega
  have E1 : (b1 : Int) / 8 % 2 = c1 := by omega
  have E2 : (b2 : Int) / 8 % 2 = c2 := by omega
  have E3 : (b3 : Int) / 8 % 2 = c3 := by omega
  clear hd hf hT hR T0 T1 R0 R1 ef hc0 hc1 hc2 hc3
  go_wp2_with fail
  go_loopw [10, 11] (fun ov pv wr => wr = w ∧ ∃ (x q : Int), ov = .int .u8 x ∧ pv = .int .i64 q ∧ Hid ((q = 3 ∧ x = 0) ∨ (q = 2 ∧ x = c3) ∨ (q = 1 ∧ x = 2 * (c3 : Int) + c2) ∨ (q = 0 ∧ x = 4 * (c3 : Int) + 2 * c2 + c1) ∨ (q = -1 ∧ x = 8 * (c3 : Int) + 4 * c2 + 2 * c1 + c0))) (fun _ pv _ => (1 + intOf pv).toNat)
  case atStart => exact ⟨rfl, 0, 3, rfl, rfl, .inl ⟨rfl, rfl⟩⟩
  case round =>
    obtain ⟨rfl, x, q, rfl, rfl, hx⟩ := hrel
    rcases hx.out with ⟨rfl, rfl⟩ | ⟨rfl, rfl⟩ | ⟨rfl, rfl⟩ | ⟨rfl, rfl⟩ | ⟨rfl, rfl⟩
    · go_wp2_with (first | (go_at_call 39; (with_reducible refine (rat_at a n cap xs _ (f + 3) _ hk3 hb3 _ hV).mono ?_); rintro e w' ⟨rfl, rfl⟩))
      go_roundw
      case rel => exact ⟨by trivial, _, _, rfl, rfl, by show (_ ∨ _); omega⟩
      case measure => simp [intOf]
    · go_wp2_with (first | (go_at_call 39; (with_reducible refine (rat_at a n cap xs _ (f + 2) _ hk2 hb2 _ hV).mono ?_); rintro e w' ⟨rfl, rfl⟩))
      go_roundw
      case rel => exact ⟨by trivial, _, _, rfl, rfl, by show (_ ∨ _); omega⟩
      case measure => simp [intOf]
    · go_wp2_with (first | (go_at_call 39; (with_reducible refine (rat_at a n cap xs _ (f + 1) _ hk1 hb1 _ hV).mono ?_); rintro e w' ⟨rfl, rfl⟩))
      go_roundw
      case rel => exact ⟨by trivial, _, _, rfl, rfl, by show (_ ∨ _); omega⟩
      case measure => simp [intOf]
    · go_wp2_with (first | (go_at_call 39; (with_reducible refine (rat_at a n cap xs _ f _ hk0 hb0 _ hV).mono ?_); rintro e w' ⟨rfl, rfl⟩))
      go_roundw
      case rel => exact ⟨by trivial, _, _, rfl, rfl, by show (_ ∨ _); omega⟩
      case measure => simp [intOf]
    · go_wp2_with fail
      go_ret
      exact ⟨congrArg (fun z => Ending.returned (.int .u8 z)) (by have := HD.out; omega), rfl⟩
set_option maxHeartbeats 800000 in
theorem rdot_5 (a : Option Addr) (n cap : Nat) (xs : Nat → Nat) (tile row T R : Int) (f b0 b1 b2 b3 d : Nat) (hT : Hid (tile % 512 = T)) (hR : Hid (row % 8 = R)) (hf : Hid (32 * T + 4 * R = (f : Int))) (hb0 : Hid (vget n xs f = b0)) (hb1 : Hid (vget n xs (f + 1) = b1)) (hb2 : Hid (vget n xs (f + 2) = b2)) (hb3 : Hid (vget n xs (f + 3) = b3)) (hd : Hid (dotV b0 b1 b2 b3 4 = d)) (w : World) (hV : ByteRow w a n xs) :
    Calls Try.prog 29 #[.slice a n cap, .int .i64 tile, .int .i64 row, .int .i64 5] w fun e w' => e = .returned (.int .u8 (d : Int)) ∧ w = w' := by
  have ef := hf.out
  have T0 : 0 ≤ T := by have := hT.out; omega
  have T1 : T < 512 := by have := hT.out; omega
  have R0 : 0 ≤ R := by have := hR.out; omega
  have R1 : R < 8 := by have := hR.out; omega
  have f1 : (f : Int) ≤ 16380 := by omega
  have hk0 : Hid ((f : Int) % 16384 = ((f : Nat) : Int)) := by show _ = _; omega
  have hk1 : Hid (((f : Int) + 1) % 16384 = ((f + 1 : Nat) : Int)) := by show _ = _; omega
  have hk2 : Hid (((f : Int) + 2) % 16384 = ((f + 2 : Nat) : Int)) := by show _ = _; omega
  have hk3 : Hid (((f : Int) + 3) % 16384 = ((f + 3 : Nat) : Int)) := by show _ = _; omega
  have B0 : b0 < 256 := by rw [← hb0.out]; exact vget_lt hV _
  have B1 : b1 < 256 := by rw [← hb1.out]; exact vget_lt hV _
  have B2 : b2 < 256 := by rw [← hb2.out]; exact vget_lt hV _
  have B3 : b3 < 256 := by rw [← hb3.out]; exact vget_lt hV _
  go_enter Try.func29, Try.ntmps29
  go_upto_region 3 with (first | (go_at_call 42; (with_reducible refine (rmod_at tile 512 T (by decide) (by decide) hT _).mono ?_); rintro e w' ⟨rfl, rfl⟩) | (go_at_call 42; (with_reducible refine (rmod_at row 8 R (by decide) (by decide) hR _).mono ?_); rintro e w' ⟨rfl, rfl⟩))
  obtain ⟨c0, hc0⟩ : ∃ c, b0 / 4 % 2 = c := ⟨_, rfl⟩
  obtain ⟨c1, hc1⟩ : ∃ c, b1 / 4 % 2 = c := ⟨_, rfl⟩
  obtain ⟨c2, hc2⟩ : ∃ c, b2 / 4 % 2 = c := ⟨_, rfl⟩
  obtain ⟨c3, hc3⟩ : ∃ c, b3 / 4 % 2 = c := ⟨_, rfl⟩
  have C0 : c0 < 2 := by omega
  have C1 : c1 < 2 := by omega
  have C2 : c2 < 2 := by omega
  have C3 : c3 < 2 := by omega
  have HD : Hid ((d : Int) = c0 + 2 * c1 + 4 * c2 + 8 * c3) := by
    show (d : Int) = _
    rw [← hd.out, ← hc0, ← hc1, ← hc2, ← hc3]; unfold dotV; omega
  have E0 : (b0 : Int) / 4 % 2 = c0 := by omega
  have E1 : (b1 : Int) / 4 % 2 = c1 := by omega
  have E2 : (b2 : Int) / 4 % 2 = c2 := by omega
  have E3 : (b3 : Int) / 4 % 2 = c3 := by omega
  clear hd hf hT hR T0 T1 R0 R1 ef hc0 hc1 hc2 hc3
  go_wp2_with fail
  go_loopw [10, 11] (fun ov pv wr => wr = w ∧ ∃ (x q : Int), ov = .int .u8 x ∧ pv = .int .i64 q ∧ Hid ((q = 3 ∧ x = 0) ∨ (q = 2 ∧ x = c3) ∨ (q = 1 ∧ x = 2 * (c3 : Int) + c2) ∨ (q = 0 ∧ x = 4 * (c3 : Int) + 2 * c2 + c1) ∨ (q = -1 ∧ x = 8 * (c3 : Int) + 4 * c2 + 2 * c1 + c0))) (fun _ pv _ => (1 + intOf pv).toNat)
  case atStart => exact ⟨rfl, 0, 3, rfl, rfl, .inl ⟨rfl, rfl⟩⟩
  case round =>
    obtain ⟨rfl, x, q, rfl, rfl, hx⟩ := hrel
    rcases hx.out with ⟨rfl, rfl⟩ | ⟨rfl, rfl⟩ | ⟨rfl, rfl⟩ | ⟨rfl, rfl⟩ | ⟨rfl, rfl⟩
    · go_wp2_with (first | (go_at_call 39; (with_reducible refine (rat_at a n cap xs _ (f + 3) _ hk3 hb3 _ hV).mono ?_); rintro e w' ⟨rfl, rfl⟩))
      go_roundw
      case rel => exact ⟨by trivial, _, _, rfl, rfl, by show (_ ∨ _); omega⟩
      case measure => simp [intOf]
    · go_wp2_with (first | (go_at_call 39; (with_reducible refine (rat_at a n cap xs _ (f + 2) _ hk2 hb2 _ hV).mono ?_); rintro e w' ⟨rfl, rfl⟩))
      go_roundw
      case rel => exact ⟨by trivial, _, _, rfl, rfl, by show (_ ∨ _); omega⟩
      case measure => simp [intOf]
    · go_wp2_with (first | (go_at_call 39; (with_reducible refine (rat_at a n cap xs _ (f + 1) _ hk1 hb1 _ hV).mono ?_); rintro e w' ⟨rfl, rfl⟩))
      go_roundw
      case rel => exact ⟨by trivial, _, _, rfl, rfl, by show (_ ∨ _); omega⟩
      case measure => simp [intOf]
    · go_wp2_with (first | (go_at_call 39; (with_reducible refine (rat_at a n cap xs _ f _ hk0 hb0 _ hV).mono ?_); rintro e w' ⟨rfl, rfl⟩))
      go_roundw
      case rel => exact ⟨by trivial, _, _, rfl, rfl, by show (_ ∨ _); omega⟩
      case measure => simp [intOf]
    · go_wp2_with fail
      go_ret
      exact ⟨congrArg (fun z => Ending.returned (.int .u8 z)) (by have := HD.out; omega), rfl⟩
set_option maxHeartbeats 800000 in
theorem rdot_6 (a : Option Addr) (n cap : Nat) (xs : Nat → Nat) (tile row T R : Int) (f b0 b1 b2 b3 d : Nat) (hT : Hid (tile % 512 = T)) (hR : Hid (row % 8 = R)) (hf : Hid (32 * T + 4 * R = (f : Int))) (hb0 : Hid (vget n xs f = b0)) (hb1 : Hid (vget n xs (f + 1) = b1)) (hb2 : Hid (vget n xs (f + 2) = b2)) (hb3 : Hid (vget n xs (f + 3) = b3)) (hd : Hid (dotV b0 b1 b2 b3 2 = d)) (w : World) (hV : ByteRow w a n xs) :
    Calls Try.prog 29 #[.slice a n cap, .int .i64 tile, .int .i64 row, .int .i64 6] w fun e w' => e = .returned (.int .u8 (d : Int)) ∧ w = w' := by
  have ef := hf.out
  have T0 : 0 ≤ T := by have := hT.out; omega
  have T1 : T < 512 := by have := hT.out; omega
  have R0 : 0 ≤ R := by have := hR.out; omega
  have R1 : R < 8 := by have := hR.out; omega
  have f1 : (f : Int) ≤ 16380 := by omega
  have hk0 : Hid ((f : Int) % 16384 = ((f : Nat) : Int)) := by show _ = _; omega
  have hk1 : Hid (((f : Int) + 1) % 16384 = ((f + 1 : Nat) : Int)) := by show _ = _; omega
  have hk2 : Hid (((f : Int) + 2) % 16384 = ((f + 2 : Nat) : Int)) := by show _ = _; omega
  have hk3 : Hid (((f : Int) + 3) % 16384 = ((f + 3 : Nat) : Int)) := by show _ = _; omega
  have B0 : b0 < 256 := by rw [← hb0.out]; exact vget_lt hV _
  have B1 : b1 < 256 := by rw [← hb1.out]; exact vget_lt hV _
  have B2 : b2 < 256 := by rw [← hb2.out]; exact vget_lt hV _
  have B3 : b3 < 256 := by rw [← hb3.out]; exact vget_lt hV _
  go_enter Try.func29, Try.ntmps29
  go_upto_region 3 with (first | (go_at_call 42; (with_reducible refine (rmod_at tile 512 T (by decide) (by decide) hT _).mono ?_); rintro e w' ⟨rfl, rfl⟩) | (go_at_call 42; (with_reducible refine (rmod_at row 8 R (by decide) (by decide) hR _).mono ?_); rintro e w' ⟨rfl, rfl⟩))
  obtain ⟨c0, hc0⟩ : ∃ c, b0 / 2 % 2 = c := ⟨_, rfl⟩
  obtain ⟨c1, hc1⟩ : ∃ c, b1 / 2 % 2 = c := ⟨_, rfl⟩
  obtain ⟨c2, hc2⟩ : ∃ c, b2 / 2 % 2 = c := ⟨_, rfl⟩
  obtain ⟨c3, hc3⟩ : ∃ c, b3 / 2 % 2 = c := ⟨_, rfl⟩
  have C0 : c0 < 2 := by omega
  have C1 : c1 < 2 := by omega
  have C2 : c2 < 2 := by omega
  have C3 : c3 < 2 := by omega
  have HD : Hid ((d : Int) = c0 + 2 * c1 + 4 * c2 + 8 * c3) := by
    show (d : Int) = _
    rw [← hd.out, ← hc0, ← hc1, ← hc2, ← hc3]; unfold dotV; omega
  have E0 : (b0 : Int) / 2 % 2 = c0 := by omega
  have E1 : (b1 : Int) / 2 % 2 = c1 := by omega
  have E2 : (b2 : Int) / 2 % 2 = c2 := by omega
  have E3 : (b3 : Int) / 2 % 2 = c3 := by omega
  clear hd hf hT hR T0 T1 R0 R1 ef hc0 hc1 hc2 hc3
  go_wp2_with fail
  go_loopw [10, 11] (fun ov pv wr => wr = w ∧ ∃ (x q : Int), ov = .int .u8 x ∧ pv = .int .i64 q ∧ Hid ((q = 3 ∧ x = 0) ∨ (q = 2 ∧ x = c3) ∨ (q = 1 ∧ x = 2 * (c3 : Int) + c2) ∨ (q = 0 ∧ x = 4 * (c3 : Int) + 2 * c2 + c1) ∨ (q = -1 ∧ x = 8 * (c3 : Int) + 4 * c2 + 2 * c1 + c0))) (fun _ pv _ => (1 + intOf pv).toNat)
  case atStart => exact ⟨rfl, 0, 3, rfl, rfl, .inl ⟨rfl, rfl⟩⟩
  case round =>
    obtain ⟨rfl, x, q, rfl, rfl, hx⟩ := hrel
    rcases hx.out with ⟨rfl, rfl⟩ | ⟨rfl, rfl⟩ | ⟨rfl, rfl⟩ | ⟨rfl, rfl⟩ | ⟨rfl, rfl⟩
    · go_wp2_with (first | (go_at_call 39; (with_reducible refine (rat_at a n cap xs _ (f + 3) _ hk3 hb3 _ hV).mono ?_); rintro e w' ⟨rfl, rfl⟩))
      go_roundw
      case rel => exact ⟨by trivial, _, _, rfl, rfl, by show (_ ∨ _); omega⟩
      case measure => simp [intOf]
    · go_wp2_with (first | (go_at_call 39; (with_reducible refine (rat_at a n cap xs _ (f + 2) _ hk2 hb2 _ hV).mono ?_); rintro e w' ⟨rfl, rfl⟩))
      go_roundw
      case rel => exact ⟨by trivial, _, _, rfl, rfl, by show (_ ∨ _); omega⟩
      case measure => simp [intOf]
    · go_wp2_with (first | (go_at_call 39; (with_reducible refine (rat_at a n cap xs _ (f + 1) _ hk1 hb1 _ hV).mono ?_); rintro e w' ⟨rfl, rfl⟩))
      go_roundw
      case rel => exact ⟨by trivial, _, _, rfl, rfl, by show (_ ∨ _); omega⟩
      case measure => simp [intOf]
    · go_wp2_with (first | (go_at_call 39; (with_reducible refine (rat_at a n cap xs _ f _ hk0 hb0 _ hV).mono ?_); rintro e w' ⟨rfl, rfl⟩))
      go_roundw
      case rel => exact ⟨by trivial, _, _, rfl, rfl, by show (_ ∨ _); omega⟩
      case measure => simp [intOf]
    · go_wp2_with fail
      go_ret
      exact ⟨congrArg (fun z => Ending.returned (.int .u8 z)) (by have := HD.out; omega), rfl⟩
set_option maxHeartbeats 800000 in
theorem rdot_7 (a : Option Addr) (n cap : Nat) (xs : Nat → Nat) (tile row T R : Int) (f b0 b1 b2 b3 d : Nat) (hT : Hid (tile % 512 = T)) (hR : Hid (row % 8 = R)) (hf : Hid (32 * T + 4 * R = (f : Int))) (hb0 : Hid (vget n xs f = b0)) (hb1 : Hid (vget n xs (f + 1) = b1)) (hb2 : Hid (vget n xs (f + 2) = b2)) (hb3 : Hid (vget n xs (f + 3) = b3)) (hd : Hid (dotV b0 b1 b2 b3 1 = d)) (w : World) (hV : ByteRow w a n xs) :
    Calls Try.prog 29 #[.slice a n cap, .int .i64 tile, .int .i64 row, .int .i64 7] w fun e w' => e = .returned (.int .u8 (d : Int)) ∧ w = w' := by
  have ef := hf.out
  have T0 : 0 ≤ T := by have := hT.out; omega
  have T1 : T < 512 := by have := hT.out; omega
  have R0 : 0 ≤ R := by have := hR.out; omega
  have R1 : R < 8 := by have := hR.out; omega
  have f1 : (f : Int) ≤ 16380 := by omega
  have hk0 : Hid ((f : Int) % 16384 = ((f : Nat) : Int)) := by show _ = _; omega
  have hk1 : Hid (((f : Int) + 1) % 16384 = ((f + 1 : Nat) : Int)) := by show _ = _; omega
  have hk2 : Hid (((f : Int) + 2) % 16384 = ((f + 2 : Nat) : Int)) := by show _ = _; omega
  have hk3 : Hid (((f : Int) + 3) % 16384 = ((f + 3 : Nat) : Int)) := by show _ = _; omega
  have B0 : b0 < 256 := by rw [← hb0.out]; exact vget_lt hV _
  have B1 : b1 < 256 := by rw [← hb1.out]; exact vget_lt hV _
  have B2 : b2 < 256 := by rw [← hb2.out]; exact vget_lt hV _
  have B3 : b3 < 256 := by rw [← hb3.out]; exact vget_lt hV _
  go_enter Try.func29, Try.ntmps29
  go_upto_region 3 with (first | (go_at_call 42; (with_reducible refine (rmod_at tile 512 T (by decide) (by decide) hT _).mono ?_); rintro e w' ⟨rfl, rfl⟩) | (go_at_call 42; (with_reducible refine (rmod_at row 8 R (by decide) (by decide) hR _).mono ?_); rintro e w' ⟨rfl, rfl⟩))
  obtain ⟨c0, hc0⟩ : ∃ c, b0 / 1 % 2 = c := ⟨_, rfl⟩
  obtain ⟨c1, hc1⟩ : ∃ c, b1 / 1 % 2 = c := ⟨_, rfl⟩
  obtain ⟨c2, hc2⟩ : ∃ c, b2 / 1 % 2 = c := ⟨_, rfl⟩
  obtain ⟨c3, hc3⟩ : ∃ c, b3 / 1 % 2 = c := ⟨_, rfl⟩
  have C0 : c0 < 2 := by omega
  have C1 : c1 < 2 := by omega
  have C2 : c2 < 2 := by omega
  have C3 : c3 < 2 := by omega
  have HD : Hid ((d : Int) = c0 + 2 * c1 + 4 * c2 + 8 * c3) := by
    show (d : Int) = _
    rw [← hd.out, ← hc0, ← hc1, ← hc2, ← hc3]; unfold dotV; omega
  have E0 : (b0 : Int) / 1 % 2 = c0 := by omega
  have E1 : (b1 : Int) / 1 % 2 = c1 := by omega
  have E2 : (b2 : Int) / 1 % 2 = c2 := by omega
  have E3 : (b3 : Int) / 1 % 2 = c3 := by omega
  clear hd hf hT hR T0 T1 R0 R1 ef hc0 hc1 hc2 hc3
  have M0 : (b0 : Int) % 2 = c0 := by omega
  have M1 : (b1 : Int) % 2 = c1 := by omega
  have M2 : (b2 : Int) % 2 = c2 := by omega
  have M3 : (b3 : Int) % 2 = c3 := by omega
  go_wp2_with fail
  go_loopw [10, 11] (fun ov pv wr => wr = w ∧ ∃ (x q : Int), ov = .int .u8 x ∧ pv = .int .i64 q ∧ Hid ((q = 3 ∧ x = 0) ∨ (q = 2 ∧ x = c3) ∨ (q = 1 ∧ x = 2 * (c3 : Int) + c2) ∨ (q = 0 ∧ x = 4 * (c3 : Int) + 2 * c2 + c1) ∨ (q = -1 ∧ x = 8 * (c3 : Int) + 4 * c2 + 2 * c1 + c0))) (fun _ pv _ => (1 + intOf pv).toNat)
  case atStart => exact ⟨rfl, 0, 3, rfl, rfl, .inl ⟨rfl, rfl⟩⟩
  case round =>
    obtain ⟨rfl, x, q, rfl, rfl, hx⟩ := hrel
    rcases hx.out with ⟨rfl, rfl⟩ | ⟨rfl, rfl⟩ | ⟨rfl, rfl⟩ | ⟨rfl, rfl⟩ | ⟨rfl, rfl⟩
    · go_wp2_with (first | (go_at_call 39; (with_reducible refine (rat_at a n cap xs _ (f + 3) _ hk3 hb3 _ hV).mono ?_); rintro e w' ⟨rfl, rfl⟩))
      go_roundw
      case rel => exact ⟨by trivial, _, _, rfl, rfl, by show (_ ∨ _); omega⟩
      case measure => simp [intOf]
    · go_wp2_with (first | (go_at_call 39; (with_reducible refine (rat_at a n cap xs _ (f + 2) _ hk2 hb2 _ hV).mono ?_); rintro e w' ⟨rfl, rfl⟩))
      go_roundw
      case rel => exact ⟨by trivial, _, _, rfl, rfl, by show (_ ∨ _); omega⟩
      case measure => simp [intOf]
    · go_wp2_with (first | (go_at_call 39; (with_reducible refine (rat_at a n cap xs _ (f + 1) _ hk1 hb1 _ hV).mono ?_); rintro e w' ⟨rfl, rfl⟩))
      go_roundw
      case rel => exact ⟨by trivial, _, _, rfl, rfl, by show (_ ∨ _); omega⟩
      case measure => simp [intOf]
    · go_wp2_with (first | (go_at_call 39; (with_reducible refine (rat_at a n cap xs _ f _ hk0 hb0 _ hV).mono ?_); rintro e w' ⟨rfl, rfl⟩))
      go_roundw
      case rel => exact ⟨by trivial, _, _, rfl, rfl, by show (_ ∨ _); omega⟩
      case measure => simp [intOf]
    · go_wp2_with fail
      go_ret
      exact ⟨congrArg (fun z => Ending.returned (.int .u8 z)) (by have := HD.out; omega), rfl⟩
section
variable {P : Program} {W0 w : World} {l : List (Nat × TypeId × List Value)} {ops : Array Oper} {rest : List Oper} {o : Oper} {a : Act} {Q : Act → Prop} {v : Value}
theorem own_region {id : Nat} {R : Exit → Act → World → Prop} {os : List Oper} (HM : Hid (Own W0 w l)) (hm : P.follows .mixedOrders = true) (hB : Region.lexB .any os.toArray = true)
    (h : wpQuiet P os.toArray (fun w' => Own W0 w' l) (fun a' => ∀ w', Hid (Own W0 w' l) → R .normal a' w') os a) : (Code.region id os.toArray true).wp P R a w :=
  wp_region_quiet (C := fun w' => Own W0 w' l) hm hB HM.out.drew h
theorem wpList_of_quiet {C : World → Prop} {ops : Array Oper} {R : Exit → Act → World → Prop} : ∀ (os : List Oper) (a : Act) (w : World), C w → wpQuiet P ops C (fun a' => ∀ w', C w' → R .normal a' w') os a → wpList P ops R os a w
  | [], _, w, hC, h => h w hC
  | _ :: os, a, w, hC, h => by
    refine wpList_step fun K hK => ?_
    unfold wpQuiet at h
    split
    · rename_i hw
      rw [if_pos hw] at h
      exact Oper.wp_of_quiet hC (fun a' w' hC' hq => hK a' w' (wpList_of_quiet os a' w' hC' hq)) h
    · rename_i hw
      rw [if_neg hw] at h
      exact hK _ _ (wpList_of_quiet os _ w hC h)
theorem own_inorder {id : Nat} {R : Exit → Act → World → Prop} {os : List Oper} (HM : Hid (Own W0 w l))
    (h : wpQuiet P os.toArray (fun w' => Own W0 w' l) (fun a' => ∀ w', Hid (Own W0 w' l) → R .normal a' w') os a) : (Code.region id os.toArray false).wp P R a w :=
  wp_region_lit (wpList_of_quiet (C := fun w' => Own W0 w' l) os a w HM.out h)
end
section
variable {P : Program} {W0 w : World} {l : List (Nat × TypeId × List Value)} {a : Act} {C : World → Prop} {K : Act → Prop} {dst : Option Tmp} {op : Op} {ty0 : TypeId} {pos : String} {aft : Array Edge} {gd : Option (Nat × Bool)} {u : Value}
theorem quiet_as (hx : ∀ w, C w → (execOp a.eval ⟨dst, op, ty0, pos, aft, gd⟩).run P w = .ok (.value u) w) (h : Oper.quiet P ⟨dst, .move (.const u), ty0, pos, aft, gd⟩ a C K) : Oper.quiet P ⟨dst, op, ty0, pos, aft, gd⟩ a C K := by
  obtain ⟨v, hv, hk⟩ := h
  refine ⟨v, fun w hC => ?_, hk⟩
  have h1 := hv w hC
  unfold Oper.quietAt at h1 ⊢
  rw [hx w hC]
  rw [BigFrame.run_move (.const u) rfl] at h1
  exact h1
theorem quiet_load {ty t : TypeId} {x : Operand} {g off n : Nat} {cs r vs : List Value} (hx : a.eval x = .pointer (some ⟨g, off, none⟩)) (hty : Agg P ty n)
    (hs : Sel l g t cs) (hd : Drop cs off r) (ht : Take r n vs)
    (h : Oper.quiet P ⟨dst, .move (.const (.agg vs.toArray)), ty0, pos, aft, gd⟩ a (fun w' => Own W0 w' l) K) : Oper.quiet P ⟨dst, .load ty x, ty0, pos, aft, gd⟩ a (fun w' => Own W0 w' l) K := by
  obtain ⟨⟨d, hu, hr⟩, hsz⟩ := hty
  refine quiet_as (fun w hC => ?_) h
  unfold execOp
  have hrun := run_loadVar_mid (P := P) w g off ty vs d (fun j v hv => ?_) hu hr (by rw [ht.len]; exact hsz)
  · simp only [hx, Instr.loadAt, Instr.sureAddr, Sem.run_bind, Sem.run_pure, Result.andThen_ok, hrun]
  · rw [(hC.at_ hs).at_]
    have e1 := hd.eq
    have e2 := ht.eq
    subst e1 e2
    rw [List.getElem?_take] at hv
    split at hv
    · rwa [List.getElem?_drop] at hv
    · cases hv
theorem quiet_cell {ty t : TypeId} {x : Operand} {g off : Nat} {cs r : List Value} (hx : a.eval x = .pointer (some ⟨g, off, none⟩)) (hty : One P ty)
    (hs : Sel l g t cs) (hd : Drop cs off (u :: r))
    (h : Oper.quiet P ⟨dst, .move (.const u), ty0, pos, aft, gd⟩ a (fun w' => Own W0 w' l) K) : Oper.quiet P ⟨dst, .load ty x, ty0, pos, aft, gd⟩ a (fun w' => Own W0 w' l) K := by
  refine quiet_as (fun w hC => ?_) h
  have hc : w.cell? ⟨g, off, none⟩ = some u := by
    rw [(hC.at_ hs).at_]
    have e1 := hd.eq
    have : (cs.drop off)[0]? = some u := by rw [e1]; rfl
    simpa using this
  unfold execOp
  simp only [hx, Instr.loadAt, Instr.sureAddr, Sem.run_bind, Sem.run_pure, Result.andThen_ok, run_loadVar_one w g off ty u hc hty]
theorem quiet_old {ty : TypeId} {x : Operand} {p : Addr} (hx : a.eval x = .pointer (some p)) (hty : One P ty) (hc : W0.cell? p = some u) (hp : p.spot = none)
    (h : Oper.quiet P ⟨dst, .move (.const u), ty0, pos, aft, gd⟩ a (fun w' => Own W0 w' l) K) : Oper.quiet P ⟨dst, .load ty x, ty0, pos, aft, gd⟩ a (fun w' => Own W0 w' l) K := by
  refine quiet_as (fun w hC => ?_) h
  have hc' : w.cell? p = some u := (hC.below.cell (block_lt_of_cell hc)).trans hc
  obtain ⟨g, off, s⟩ := p
  cases hp
  unfold execOp
  simp only [hx, Instr.loadAt, Instr.sureAddr, Sem.run_bind, Sem.run_pure, Result.andThen_ok, run_loadVar_one w g off ty u hc' hty]
theorem quiet_call {cl : Call} {f : FuncId} {args args' : Array Value} (hx : ∀ w, (execOp a.eval ⟨dst, .call cl, ty0, pos, aft, gd⟩).run P w = .ok (.enter f args') w) (ha : args' = args)
    (hc : ∀ w', Hid (Own W0 w' l) → Calls P f args w' fun e w'' => e = .returned u ∧ Below w'.heap.size w' w'')
    (h : Oper.quiet P ⟨dst, .move (.const u), ty0, pos, aft, gd⟩ a (fun w' => Own W0 w' l) K) : Oper.quiet P ⟨dst, .call cl, ty0, pos, aft, gd⟩ a (fun w' => Own W0 w' l) K := by
  obtain ⟨v, hv, hk⟩ := h
  refine ⟨v, fun w hC => ?_, hk⟩
  have h1 := hv w hC
  unfold Oper.quietAt at h1 ⊢
  rw [BigFrame.run_move (.const u) rfl] at h1
  obtain ⟨-, rfl⟩ := h1
  rw [hx w, ha]
  exact ⟨rfl, (hc w hC).mono fun _ _ ⟨he, hb⟩ => ⟨he, hC.call hb⟩⟩
end
theorem land_64 : ∀ a, a < 256 → Nat.land a 64 = 64 * (a / 64 % 2) := by decide +kernel
theorem land_128 : ∀ a, a < 256 → Nat.land a 128 = 128 * (a / 128) := by decide +kernel
theorem shown_in (L : Int) (h0 : 0 ≤ L) (h1 : L < 192) (w : World) : Calls Try.prog 30 #[.int .i64 L] w fun e w' => e = .returned (.bool true) ∧ w = w' := by
  go_enter Try.func30, Try.ntmps30
  go_wp2
  go_ret
  exact ⟨rfl, rfl⟩
set_option maxHeartbeats 800000 in
theorem col_at (r0 r1 r2 r3 r4 r5 r6 r7 r8 r9 r10 line x c : Nat) (L X : Int) (hL : Hid ((line : Int) = L)) (hX : Hid (X = (x : Int))) (h0 : r0 < 256) (h8 : r8 < 256) (hl : line < 192) (hx : x < 256) (hc : Hid (baCol r0 r8 line x = c)) (w : World) :
    Calls Try.prog 43 #[regsV r0 r1 r2 r3 r4 r5 r6 r7 r8 r9 r10, .int .i64 L, .int .u8 X] w fun e w' => e = .returned (.int .i64 (c : Int)) ∧ Below w.heap.size w w' := by
  have eX := hX.out
  have eL := hL.out
  subst eL eX
  have HM := Lib.hid (Own.start w)
  have tg1 : Hid True := trivial
  have x1 : (x : Int) < 256 := by omega
  have ec := hc.out
  unfold baCol at ec
  have e1 : bits .and .u8 (r0 : Int) 64 = ((64 * (r0 / 64 % 2) : Nat) : Int) := (u8_and_nat r0 64 h0 (by decide)).trans (congrArg _ (land_64 r0 h0))
  have hcs : IntKind.u8.wrap ((x : Int) - (r8 : Int)) = (((x + 256 - r8) % 256 : Nat) : Int) := by rw [IntKind.wrap_u8]; omega
  rcases (show r0 / 64 % 2 = 1 ∨ r0 / 64 % 2 = 0 by omega) with k1 | k1
  · rw [k1] at e1 ec
    by_cases k2 : line < 16
    · have k3 : (line : Int) < 16 := by omega
      simp only [k2, and_self, if_true] at ec
      subst ec
      clear hcs hc hX hL
      go_enter Try.func43, Try.ntmps43
      go_wp2_with (first | ((with_reducible apply own_box HM); exact rfl; (conv => lhs; whnf); exact rfl; exact rfl; (first | (clear tg1 HM; intro w' g1 HM) | (clear tg2 HM; intro w' g2 HM) | (clear tg3 HM; intro w' g3 HM) | (clear tg4 HM; intro w' g4 HM) | (clear HM; intro w' g' HM))) | ((with_reducible apply own_cell HM); exact rfl; exact rfl; (first | (with_reducible exact one8)); exact sS; exact dS; exact rfl) | ((with_reducible apply own_load HM); exact rfl; exact rfl; (first | (with_reducible exact agg11)); exact sS; exact dS; exact tS; exact rfl) | ((with_reducible apply own_store HM); exact rfl; exact rfl; (conv => lhs; whnf); exact rfl; exact sS; exact vS; exact sS; (first | (with_reducible exact (agg11).size) | (with_reducible exact (one8).size)); exact rfl; exact rfl; exact rfl; exact rfl; clear HM; intro w' HM))
      go_ret
      exact ⟨rfl, Own.fin HM⟩
    · have k3 : ¬ (line : Int) < 16 := by omega
      simp only [k2, and_false, if_false] at ec
      obtain ⟨d, hd⟩ : ∃ d : Nat, (x + 256 - r8) % 256 = d := ⟨_, rfl⟩
      rw [hd] at hcs ec
      have d1 : (d : Int) < 256 := by omega
      subst ec
      clear hc hX hd hL
      go_enter Try.func43, Try.ntmps43
      go_wp2_with (first | ((with_reducible apply own_box HM); exact rfl; (conv => lhs; whnf); exact rfl; exact rfl; (first | (clear tg1 HM; intro w' g1 HM) | (clear tg2 HM; intro w' g2 HM) | (clear tg3 HM; intro w' g3 HM) | (clear tg4 HM; intro w' g4 HM) | (clear HM; intro w' g' HM))) | ((with_reducible apply own_cell HM); exact rfl; exact rfl; (first | (with_reducible exact one8)); exact sS; exact dS; exact rfl) | ((with_reducible apply own_load HM); exact rfl; exact rfl; (first | (with_reducible exact agg11)); exact sS; exact dS; exact tS; exact rfl) | ((with_reducible apply own_store HM); exact rfl; exact rfl; (conv => lhs; whnf); exact rfl; exact sS; exact vS; exact sS; (first | (with_reducible exact (agg11).size) | (with_reducible exact (one8).size)); exact rfl; exact rfl; exact rfl; exact rfl; clear HM; intro w' HM))
      go_ret
      exact ⟨rfl, Own.fin HM⟩
  · rw [k1] at e1 ec
    simp only [Nat.zero_ne_one, false_and, if_false] at ec
    obtain ⟨d, hd⟩ : ∃ d : Nat, (x + 256 - r8) % 256 = d := ⟨_, rfl⟩
    rw [hd] at hcs ec
    have d1 : (d : Int) < 256 := by omega
    subst ec
    clear hc hX hd hL
    go_enter Try.func43, Try.ntmps43
    go_wp2_with (first | ((with_reducible apply own_box HM); exact rfl; (conv => lhs; whnf); exact rfl; exact rfl; (first | (clear tg1 HM; intro w' g1 HM) | (clear tg2 HM; intro w' g2 HM) | (clear tg3 HM; intro w' g3 HM) | (clear tg4 HM; intro w' g4 HM) | (clear HM; intro w' g' HM))) | ((with_reducible apply own_cell HM); exact rfl; exact rfl; (first | (with_reducible exact one8)); exact sS; exact dS; exact rfl) | ((with_reducible apply own_load HM); exact rfl; exact rfl; (first | (with_reducible exact agg11)); exact sS; exact dS; exact tS; exact rfl) | ((with_reducible apply own_store HM); exact rfl; exact rfl; (conv => lhs; whnf); exact rfl; exact sS; exact vS; exact sS; (first | (with_reducible exact (agg11).size) | (with_reducible exact (one8).size)); exact rfl; exact rfl; exact rfl; exact rfl; clear HM; intro w' HM))
    go_ret
    exact ⟨rfl, Own.fin HM⟩
set_option maxHeartbeats 800000 in
theorem row_at (r0 r1 r2 r3 r4 r5 r6 r7 r8 r9 r10 line x q : Nat) (L X : Int) (hL : Hid ((line : Int) = L)) (hX : Hid (X = (x : Int))) (h0 : r0 < 256) (h9 : r9 < 256) (hl : line < 192) (hx : x < 256) (hq : Hid (baRow r0 r9 line x = q)) (w : World) :
    Calls Try.prog 44 #[regsV r0 r1 r2 r3 r4 r5 r6 r7 r8 r9 r10, .int .i64 L, .int .u8 X] w fun e w' => e = .returned (.int .i64 (q : Int)) ∧ Below w.heap.size w w' := by
  have eX := hX.out
  have eL := hL.out
  subst eL eX
  have HM := Lib.hid (Own.start w)
  have tg1 : Hid True := trivial
  have x1 : (x : Int) < 256 := by omega
  have l1 : (line : Int) < 192 := by omega
  have ec := hq.out
  unfold baRow at ec
  have e1 : bits .and .u8 (r0 : Int) 128 = ((128 * (r0 / 128) : Nat) : Int) := (u8_and_nat r0 128 h0 (by decide)).trans (congrArg _ (land_128 r0 h0))
  have ht1 : (line : Int).tmod 224 = (line : Int) := by rw [Int.tmod_eq_emod_of_nonneg (by omega)]; omega
  obtain ⟨d, hd⟩ : ∃ d : Nat, (line + r9) % 224 = d := ⟨_, rfl⟩
  have ht2 : ((line : Int) + (r9 : Int)).tmod 224 = (d : Int) := by rw [Int.tmod_eq_emod_of_nonneg (by omega)]; omega
  rw [hd] at ec
  clear hd hq hX hL
  rcases (show r0 / 128 = 1 ∨ r0 / 128 = 0 by omega) with k1 | k1
  · rw [k1] at e1 ec
    by_cases k2 : 192 ≤ x
    · have k3 : ¬ (x : Int) < 192 := by omega
      simp only [k2, and_self, if_true] at ec
      subst ec
      clear ht2
      go_enter Try.func44, Try.ntmps44
      go_wp2_with (first | ((with_reducible apply own_box HM); exact rfl; (conv => lhs; whnf); exact rfl; exact rfl; (first | (clear tg1 HM; intro w' g1 HM) | (clear tg2 HM; intro w' g2 HM) | (clear tg3 HM; intro w' g3 HM) | (clear tg4 HM; intro w' g4 HM) | (clear HM; intro w' g' HM))) | ((with_reducible apply own_cell HM); exact rfl; exact rfl; (first | (with_reducible exact one8)); exact sS; exact dS; exact rfl) | ((with_reducible apply own_load HM); exact rfl; exact rfl; (first | (with_reducible exact agg11)); exact sS; exact dS; exact tS; exact rfl) | ((with_reducible apply own_store HM); exact rfl; exact rfl; (conv => lhs; whnf); exact rfl; exact sS; exact vS; exact sS; (first | (with_reducible exact (agg11).size) | (with_reducible exact (one8).size)); exact rfl; exact rfl; exact rfl; exact rfl; clear HM; intro w' HM))
      go_ret
      exact ⟨rfl, Own.fin HM⟩
    · have k3 : (x : Int) < 192 := by omega
      simp only [k2, and_false, if_false] at ec
      subst ec
      clear ht1
      go_enter Try.func44, Try.ntmps44
      go_wp2_with (first | ((with_reducible apply own_box HM); exact rfl; (conv => lhs; whnf); exact rfl; exact rfl; (first | (clear tg1 HM; intro w' g1 HM) | (clear tg2 HM; intro w' g2 HM) | (clear tg3 HM; intro w' g3 HM) | (clear tg4 HM; intro w' g4 HM) | (clear HM; intro w' g' HM))) | ((with_reducible apply own_cell HM); exact rfl; exact rfl; (first | (with_reducible exact one8)); exact sS; exact dS; exact rfl) | ((with_reducible apply own_load HM); exact rfl; exact rfl; (first | (with_reducible exact agg11)); exact sS; exact dS; exact tS; exact rfl) | ((with_reducible apply own_store HM); exact rfl; exact rfl; (conv => lhs; whnf); exact rfl; exact sS; exact vS; exact sS; (first | (with_reducible exact (agg11).size) | (with_reducible exact (one8).size)); exact rfl; exact rfl; exact rfl; exact rfl; clear HM; intro w' HM))
      go_ret
      exact ⟨rfl, Own.fin HM⟩
  · rw [k1] at e1 ec
    simp only [Nat.zero_ne_one, false_and, if_false] at ec
    subst ec
    clear ht1
    go_enter Try.func44, Try.ntmps44
    go_wp2_with (first | ((with_reducible apply own_box HM); exact rfl; (conv => lhs; whnf); exact rfl; exact rfl; (first | (clear tg1 HM; intro w' g1 HM) | (clear tg2 HM; intro w' g2 HM) | (clear tg3 HM; intro w' g3 HM) | (clear tg4 HM; intro w' g4 HM) | (clear HM; intro w' g' HM))) | ((with_reducible apply own_cell HM); exact rfl; exact rfl; (first | (with_reducible exact one8)); exact sS; exact dS; exact rfl) | ((with_reducible apply own_load HM); exact rfl; exact rfl; (first | (with_reducible exact agg11)); exact sS; exact dS; exact tS; exact rfl) | ((with_reducible apply own_store HM); exact rfl; exact rfl; (conv => lhs; whnf); exact rfl; exact sS; exact vS; exact sS; (first | (with_reducible exact (agg11).size) | (with_reducible exact (one8).size)); exact rfl; exact rfl; exact rfl; exact rfl; clear HM; intro w' HM))
    go_ret
    exact ⟨rfl, Own.fin HM⟩
set_option maxHeartbeats 800000 in
theorem source_in (r0 r1 r2 r3 r4 r5 r6 r7 r8 r9 r10 line x : Nat) (h0 : r0 < 256) (h8 : r8 < 256) (h9 : r9 < 256) (hl : line < 192) (hx : x < 256) (c q : Nat) (L X : Int) (hL : Hid ((line : Int) = L)) (hX : Hid (X % 256 = (x : Int))) (hc : Hid (baCol r0 r8 line x = c)) (hq : Hid (baRow r0 r9 line x = q)) (w : World) :
    Calls Try.prog 31 #[regsV r0 r1 r2 r3 r4 r5 r6 r7 r8 r9 r10, .int .i64 L, .int .i64 X] w fun e w' => e = .returned (.tuple #[.int .i64 (c : Int), .int .i64 (q : Int)]) ∧ Below w.heap.size w w' := by
  have HM := Lib.hid (Own.start w)
  have tg1 : Hid True := trivial
  have L0 : 0 ≤ L := by have := hL.out; omega
  have L1 : L < 192 := by have := hL.out; omega
  go_enter Try.func31, Try.ntmps31
  go_upto_region 3 with (first | ((with_reducible apply own_box HM); exact rfl; (conv => lhs; whnf); exact rfl; exact rfl; (first | (clear tg1 HM; intro w' g1 HM) | (clear tg2 HM; intro w' g2 HM) | (clear tg3 HM; intro w' g3 HM) | (clear tg4 HM; intro w' g4 HM) | (clear HM; intro w' g' HM))) | ((with_reducible apply own_cell HM); exact rfl; exact rfl; (first | (with_reducible exact one8)); exact sS; exact dS; exact rfl) | ((with_reducible apply own_load HM); exact rfl; exact rfl; (first | (with_reducible exact agg11)); exact sS; exact dS; exact tS; exact rfl) | ((with_reducible apply own_store HM); exact rfl; exact rfl; (conv => lhs; whnf); exact rfl; exact sS; exact vS; exact sS; (first | (with_reducible exact (agg11).size) | (with_reducible exact (one8).size)); exact rfl; exact rfl; exact rfl; exact rfl; clear HM; intro w' HM) | (go_at_call 30; (with_reducible refine (shown_in L L0 L1 _).mono ?_); rintro e w' ⟨rfl, rfl⟩))
  (refine own_region HM (by kernel_rfl) (by kernel_rfl) ?_; (try simp only [Act.put, List.setIfInBounds_toArray, List.set_cons_zero, List.set_cons_succ]); repeat ((fail_if_success (with_reducible refine wpQuiet_nil ?_)); first | go_big_quiet_skip | (go_big_quiet_want; first | ((with_reducible apply quiet_load); exact rfl; (first | (with_reducible exact agg11)); exact sS; exact dS; exact tS; go_big_quiet_op; go_big_quiet_on) | ((with_reducible apply quiet_call); exact fun w => rfl; (focus (go_simp; all_goals with_reducible rfl)); (intro wq HQ; first | (with_reducible exact col_at r0 r1 r2 r3 r4 r5 r6 r7 r8 r9 r10 line x c L _ hL hX h0 h8 hl hx hc _) | (with_reducible exact row_at r0 r1 r2 r3 r4 r5 r6 r7 r8 r9 r10 line x q L _ hL hX h0 h9 hl hx hq _)); go_big_quiet_op; go_big_quiet_on) | (go_big_quiet_op; go_big_quiet_on) | (go_big_quiet_op; refine ⟨_, fun _ _ => rfl, ?_⟩; go_big_quiet_on))))
  refine wpQuiet_nil ?_
  intro w' HM'
  clear HM; have HM := HM'; clear HM'
  go_wp2_with fail
  go_ret2
  exact ⟨rfl, Own.fin HM⟩
section
variable {P : Program} {W0 w : World} {l l' : List (Nat × TypeId × List Value)} {ops : Array Oper} {o : Oper} {a : Act} {Q : Exit → Act → World → Prop} {K : Act → World → Prop} {S : World → Prop} {v : Value}
theorem wpOp_of {i : Nat} (hi : ops[i]? = some o) (hw : Region.wanted o (yielded ops a.tmps) = true) (h : o.wp P a w K Q) : wpOp P ops Q i K a w := by
  unfold wpOp; simp only [hi, hw, if_true]; exact .inl h
theorem y_row {ty t : TypeId} {x : Operand} {g n : Nat} {cs : List Value} (ho : o.op = .load ty x) (hx : a.eval x = .pointer (some ⟨g, 0, none⟩)) (hty : Agg P ty n)
    (hs : Sel l g t cs) (hl : cs.length = n) (hw : Region.wanted o (yielded ops a.tmps) = true) : YieldsIf P ops (fun w' => Own W0 w' l) o (.agg cs.toArray) a := by
  obtain ⟨⟨d, hu, hr⟩, hsz⟩ := hty
  refine .inl ⟨hw, fun w hC => ?_⟩
  unfold execOp
  have hrun := run_loadVar_mid (P := P) w g 0 ty cs d (fun j v hv => by rw [(hC.at_ hs).at_, Nat.zero_add]; exact hv) hu hr (by rw [hl]; exact hsz)
  simp only [ho, hx, Instr.loadAt, Instr.sureAddr, Sem.run_bind, Sem.run_pure, Result.andThen_ok, hrun]
theorem y_pure (hw : Region.wanted o (yielded ops a.tmps) = true) (h : ∀ w, (execOp a.eval o).run P w = .ok (.value v) w) : YieldsIf P ops S o v a := .inl ⟨hw, fun w _ => h w⟩
theorem w_call {f : FuncId} {args args' : Array Value} (hx : ∀ w, (execOp a.eval o).run P w = .ok (.enter f args') w) (ha : args' = args) (hc : Calls P f args w fun e w' => ∃ u, e = .returned u ∧ K (a.put o.dst u) w') : o.wp P a w K Q := by
  subst ha
  unfold Oper.wp
  rw [hx w, Oper.upon_enter]
  exact hc.mono fun e w' ⟨u, he, hk⟩ => by subst he; exact hk
theorem h_take {md : Region.Mode} {i d : Nat} {oi : Oper} {fuel : Nat} {listed : Array Bool} (hi : ops[i]? = some oi) (hd : oi.dst = some d)
    (hs : Region.noSelect ops = true) (hf : Region.free md ops listed i = true) (hr : (Region.ready md ops listed).contains i = true)
    (hQ : ∀ c a w, Q (.panic c) (a.put (some d) v) w → Q (.panic c) a w) (hy : YieldsIf P ops S oi v a) (hS : S w)
    (h : wpAnyH P md ops Q S fuel (listed.setIfInBounds i true) (a.put (some d) v) w) : wpAnyH P md ops Q S (fuel + 1) listed a w :=
  wpAnyH_take hi hs hf hr (by rw [hd]; exact hQ) hy hS (by rw [hd]; exact h)
theorem w_alloc {ty : TypeId} {vs : List Value} (HM : Hid (Own W0 w l)) (ho : o.op = .alloc ty) (hz : Zero P ty vs)
    (h : ∀ w' g, Hid (Own W0 w' ((g, ty, vs) :: l)) → K (a.put o.dst (.pointer (some ⟨g, 0, none⟩))) w') : o.wp P a w K Q := by
  obtain ⟨z, hz, hv⟩ := hz
  unfold Oper.wp execOp
  simp only [ho, Instr.alloc, Sem.run_bind, hz, Result.andThen_ok, newVar, newRow, newObj, hv]
  exact h _ _ (HM.out.new ty vs)
theorem w_lay {ty t : TypeId} {x y : Operand} {g n : Nat} {cs vs : List Value} (HM : Hid (Own W0 w l)) (ho : o.op = .store ty x y) (hx : a.eval x = .pointer (some ⟨g, 0, none⟩)) (hv : a.eval y = .agg vs.toArray)
    (hsel : Sel l g t cs) (hs : Put l g t cs vs l') (hty : Size P ty n) (hn : vs.length = n) (hl : cs.length = n) (h1 : vs.all (·.oneCell') = true)
    (hd : o.dst = none) (h : ∀ w', Hid (Own W0 w' l') → K a w') : o.wp P a w K Q := by
  have h : ∀ w', Hid (Own W0 w' l') → K (a.put o.dst undef) w' := by rw [hd]; exact h
  have hwh := (HM.out.whole _ hsel.mem).2
  exact wp_store_row ty x y ho g vs.toArray hx hv t cs.toArray hwh (by unfold Size at hty; simpa [hn] using hty) (by simp [hl, hn]) (by simpa using h1) (h _ (HM.out.of_row hs))
end
end Go.Proofs.Ytijjigacmmhloaa
