/-
  A slice that the call has made by appends, of elements of so many cells: nil, or a block of which it is the first part. Others of the same type may stand beside it. Nothing here speaks of the program.
-/
import Derived.Test.YtcefgcoibppdaaaOwn
import Derived.Laws.AppendOwn
import Derived.Laws.OwnMore
namespace Go.Proofs.Ytcefgcoibppdaaa
open Go.RowKit

/-- the slice v of k elements reads as the cells xs; R: its block, if it has one -/
def RowN (sz : Nat) (t : TypeId) (R : List (Nat × TypeId × List Value)) (v : Value) (k : Nat) (xs : List Value) : Prop :=
  xs.length = k * sz ∧ ((R = [] ∧ v = .slice none 0 0 ∧ k = 0) ∨
  ∃ g cap cur, R = [(g, t, cur)] ∧ v = .slice (some ⟨g, 0, none⟩) k cap ∧ k ≤ cap ∧ cap ≤ maxLen ∧ cur.length = cap * sz ∧ cur.take (k * sz) = xs)

section
variable {W0 w w' : World} {l L R R' : List (Nat × TypeId × List Value)} {t : TypeId} {v v' : Value} {xs ys : List Value} {sz k : Nat}
theorem RowN.nil (sz : Nat) (t : TypeId) : RowN sz t [] (.slice none 0 0) 0 [] := ⟨by simp, .inl ⟨rfl, rfl, rfl⟩⟩
theorem RowN.fresh (sz : Nat) (t : TypeId) (g k : Nat) (cs : List Value) (h : cs.length = k * sz) (hk : k ≤ maxLen) : RowN sz t [(g, t, cs)] (.slice (some ⟨g, 0, none⟩) k k) k cs :=
  ⟨h, .inr ⟨g, k, cs, rfl, rfl, Nat.le_refl _, hk, h, by rw [← h]; exact List.take_length⟩⟩
theorem RowN.owns (h : RowN sz t R v k xs) {B : Nat} (hR : ∀ e ∈ R, B ≤ e.1 ∧ Whole w e.1 e.2.1 e.2.2) : w.ownsRow B t sz v k xs := by
  obtain ⟨hl, ⟨-, rfl, rfl⟩ | ⟨g, cap, cur, rfl, rfl, h1, h2, h3, h4⟩⟩ := h
  · exact ⟨hl, .inl ⟨rfl, rfl⟩⟩
  · obtain ⟨hb, hw⟩ := hR (g, t, cur) (by simp)
    exact ⟨hl, .inr ⟨g, cap, cur.toArray, rfl, hb, hw, h1, h2, by simp [h3], by simpa using h4⟩⟩
theorem rowN_of_owns {B : Nat} (h : w.ownsRow B t sz v k xs) : ∃ R, RowN sz t R v k xs ∧ ∀ e ∈ R, B ≤ e.1 ∧ Whole w e.1 e.2.1 e.2.2 := by
  obtain ⟨hl, ⟨rfl, rfl⟩ | ⟨g, cap, cur, rfl, hb, hw, h1, h2, h3, h4⟩⟩ := h
  · exact ⟨[], ⟨hl, .inl ⟨rfl, rfl, rfl⟩⟩, by simp⟩
  · refine ⟨[(g, t, cur.toList)], ⟨hl, .inr ⟨g, cap, cur.toList, rfl, rfl, h1, h2, by simpa using h3, by simpa using h4⟩⟩, ?_⟩
    intro e he
    obtain rfl := List.mem_singleton.1 he
    exact ⟨hb, hw⟩
/-- what an append of one element does -/
theorem append_one {P : Program} {tS ty : TypeId} {i : TypeInfo} {z : Value} {bytes : Nat} (ht : P.underlying tS = some (.slice t)) (hi : P.info? t = some i) (hz : i.zero = some z)
    (hsize : i.size = sz) (hby : i.bytes = bytes) (hzs : z.cells.size = sz) (hsz : 0 < sz) (hbb : bytes ≤ 64)
    (HR : RowN sz t R v k xs) (hW : ∀ e ∈ R, Whole w e.1 e.2.1 e.2.2) (ad : Addr) (c : Nat) (news : List Value) (hl : news.length = sz) (hnews : ∀ j u, news[j]? = some u → w.cell? (ad.add j) = some u) (h1 : ∀ u ∈ news, u.oneCell' = true) (hk : k ≤ 100000) :
    ∃ v' w' R', (Builtin.append_ #[tS, tS] ty #[v, .slice (some ad) 1 c]).run P w = .ok v' w' ∧ RowN sz t R' v' (k + 1) (xs ++ news) ∧ (∀ e ∈ R', Whole w' e.1 e.2.1 e.2.2) ∧ w.grownBy w' v.ownBlock ∧
      ∀ e ∈ R', (∃ e0 ∈ R, e0.1 = e.1) ∨ w.heap.size ≤ e.1 := by
  have hb2 : (k + 1) * bytes ≤ 140737488355328 := by
    have : (k + 1) * bytes ≤ 100001 * 64 := Nat.mul_le_mul (by omega) hbb
    omega
  have h63 : k + 1 ≤ maxLen := by unfold maxLen; omega
  obtain ⟨hlx, ⟨rfl, rfl, rfl⟩ | ⟨g, cap, cur, rfl, rfl, hc1, hc2, hc3, hc4⟩⟩ := HR
  · obtain ⟨v', w', hr, ho, hg, -⟩ := run_append_own (P := P) w w.heap.size tS ty t i z sz bytes ht hi hz hsize hby hzs hsz _ 0 xs ⟨hlx, .inl ⟨rfl, rfl⟩⟩ ad 1 c news (by omega) hnews h1 h63 hb2 (Nat.le_refl _)
    obtain ⟨R', hR', hW'⟩ := rowN_of_owns ho
    exact ⟨v', w', R', hr, hR', fun e he => (hW' e he).2, hg, fun e he => .inr (hW' e he).1⟩
  · have hwg := hW (g, t, cur) (by simp)
    have hown : w.ownsRow 0 t sz (.slice (some ⟨g, 0, none⟩) k cap) k xs := RowN.owns ⟨hlx, .inr ⟨g, cap, cur, rfl, rfl, hc1, hc2, hc3, hc4⟩⟩ (fun e he => by
      obtain rfl := List.mem_singleton.1 he
      exact ⟨Nat.zero_le _, hwg⟩)
    by_cases hroom : k + 1 ≤ cap
    · obtain ⟨w', hr, ho, hg⟩ := run_append_fits (P := P) w 0 tS ty t i sz ht hi hsize g k cap xs hown ad 1 c news (by omega) hnews h1 hroom
      obtain ⟨R', hR', hW'⟩ := rowN_of_owns ho
      refine ⟨_, w', R', hr, hR', fun e he => (hW' e he).2, hg, fun e he => .inl ⟨(g, t, cur), by simp, ?_⟩⟩
      obtain ⟨-, ⟨-, hv, -⟩ | ⟨g', cap', cur', rfl, hv, -⟩⟩ := hR'
      · cases hv
      · obtain rfl := List.mem_singleton.1 he
        cases hv; rfl
    · have holds : ∀ j u, xs[j]? = some u → w.cell? ((⟨g, 0, none⟩ : Addr).add j) = some u := hown.cells (g := g) rfl
      have hr := run_append_grow (P := P) w tS ty t i z ht hi hz ⟨g, 0, none⟩ k cap xs (by rw [hlx, hsize]) holds ad 1 c news (by rw [hl, hsize]; omega) hnews (by omega) (by unfold maxLen at h63; omega) (by rw [hby]; exact growslice_fits (by omega) hb2)
      have hge := grownCap_ge w (k + 1) cap t
      have hcm : grownCap w (k + 1) cap t ≤ maxLen := grownCap_le_maxLen w (k + 1) cap t h63
      have hlen : (xs ++ news).length = (k + 1) * sz := by rw [List.length_append, hlx, hl, Nat.add_mul]; omega
      refine ⟨_, _, [(w.heap.size, t, (xs.toArray ++ news.toArray ++ Builtin.zeroCells z.cells (grownCap w (k + 1) cap t - (k + 1))).toList)], hr, ⟨hlen, .inr ⟨_, _, _, rfl, rfl, hge, hcm, ?_, ?_⟩⟩, ?_, ⟨rfl, rfl, rfl, by simp, fun k' hk' _ => heap_alloc_old w.drew _ hk'⟩, ?_⟩
      · simp only [Array.length_toList, Array.size_append, List.size_toArray, size_zeroCells, hzs, hlx, hl]
        have : grownCap w (k + 1) cap t = k + 1 + (grownCap w (k + 1) cap t - (k + 1)) := by omega
        rw [this, Nat.add_sub_cancel_left, Nat.add_mul, Nat.add_mul, Nat.one_mul]
      · simp only [Array.toList_append, List.append_assoc]
        rw [← List.append_assoc, ← hlen]
        exact List.take_left
      · intro e he
        obtain rfl := List.mem_singleton.1 he
        show _ = some (Obj.cells (Array.toList _).toArray t (0, 0))
        rw [Array.toArray_toList]
        exact heap_alloc_new w.drew _
      · intro e he
        obtain rfl := List.mem_singleton.1 he
        exact .inr (Nat.le_refl _)
theorem Own.perm (h : Own W0 w l) {l' : List (Nat × TypeId × List Value)} (hp : l.Perm l') : Own W0 w l' :=
  ⟨h.below, fun e he => h.whole e (hp.mem_iff.2 he), (List.Perm.pairwise_iff (fun h => Ne.symm h) hp).1 h.apart⟩
/-- behind an append: the others are as they were; the row is the new one -/
theorem Own.appended {E : List (Nat × TypeId × List Value)} (h : Own W0 w (E ++ (L ++ R))) (hR : RowN sz t R v k xs) (hg : w.grownBy w' v.ownBlock) {k' : Nat}
    (hR' : RowN sz t R' v' k' ys) (hW : ∀ e ∈ R', Whole w' e.1 e.2.1 e.2.2) (hn : ∀ e ∈ R', (∃ e0 ∈ R, e0.1 = e.1) ∨ w.heap.size ≤ e.1) : Own W0 w' (L ++ R') := by
  have hrow : ∀ g, v.ownBlock = some g → ∃ cur, (g, t, cur) ∈ R := by
    intro g hk
    obtain ⟨-, ⟨-, rfl, -⟩ | ⟨g, cap, cur, rfl, rfl, -⟩⟩ := hR
    · cases hk
    · cases hk; exact ⟨cur, by simp⟩
  have hlo : ∀ g, v.ownBlock = some g → W0.heap.size ≤ g := by
    intro g hk
    obtain ⟨cur, hm⟩ := hrow g hk
    exact (h.whole (g, t, cur) (by simp [hm])).1
  have hap := (List.pairwise_append.1 (List.pairwise_append.1 h.apart).2.1)
  have hLw : ∀ e ∈ L, W0.heap.size ≤ e.1 ∧ Whole w' e.1 e.2.1 e.2.2 := by
    intro e he
    have hx := h.whole e (by simp [he])
    refine ⟨hx.1, hx.2.grown hg ?_⟩
    intro hk
    obtain ⟨cur, hm⟩ := hrow e.1 hk.symm
    exact hap.2.2 e he (e.1, t, cur) hm rfl
  refine ⟨h.below.trans ((Below.refl _ w).grown hg h.below.size hlo), ?_, ?_⟩
  · intro e he
    rcases List.mem_append.1 he with he | he
    · exact hLw e he
    · refine ⟨?_, hW e he⟩
      rcases hn e he with ⟨e0, h0, h1⟩ | h1
      · rw [← h1]; exact (h.whole e0 (by simp [h0])).1
      · exact Nat.le_trans h.below.size h1
  · rw [List.pairwise_append]
    refine ⟨hap.1, ?_, ?_⟩
    · obtain ⟨-, ⟨rfl, -⟩ | ⟨g, cap, cur, rfl, -⟩⟩ := hR'
      · exact .nil
      · exact List.pairwise_singleton _ _
    · intro a ha b hb
      rcases hn b hb with ⟨e0, h0, h1⟩ | h1
      · rw [← h1]; exact hap.2.2 a ha e0 h0
      · have := (h.whole a (by simp [ha])).2.inside
        omega
end
theorem Own.rows {W0 w : World} {l R : List (Nat × TypeId × List Value)} (h : Own W0 w (l ++ R)) : ∀ e ∈ R, W0.heap.size ≤ e.1 ∧ Whole w e.1 e.2.1 e.2.2 := fun e he => h.whole e (by simp [he])
/-- append of one element that stands in a block of the call's own -/
theorem own_appends {P : Program} {W0 w : World} {ops : Array Oper} {rest : List Oper} {o : Oper} {a : Act} {Q : Exit → Act → World → Prop} {L R : List (Nat × TypeId × List Value)} {g3 k sz : Nat} {c3 xs : List Value} {t3 t tS : TypeId} {v : Value} {s y : Operand} {i : TypeInfo} {z : Value} {bytes : Nat}
    (HM : Hid (Own W0 w ((g3, t3, c3) :: (L ++ R)))) (HR : Hid (RowN sz t R v k xs)) (ht : P.underlying tS = some (.slice t)) (hi : P.info? t = some i) (hz : i.zero = some z)
    (hsize : i.size = sz) (hby : i.bytes = bytes) (hzs : z.cells.size = sz) (hsz : 0 < sz) (hbb : bytes ≤ 64) (h3 : c3.length = sz) (h1 : c3.all (·.oneCell') = true) (hk : k ≤ 100000)
    (ho : o.op = .call { callee := .builtin .append, args := #[s, y], argTypes := #[tS, tS] }) (hs : a.eval s = v) (hy : a.eval y = .slice (some ⟨g3, 0, none⟩) 1 1) (hw : Region.wanted o (yielded ops a.tmps) = true)
    (h : ∀ v' w' R', Hid (RowN sz t R' v' (k + 1) (xs ++ c3)) → Hid (Own W0 w' (L ++ R')) → wpList P ops Q rest (a.put o.dst v') w') : wpList P ops Q (o :: rest) a w := by
  refine wpList_wanted hw fun K hK => ?_
  have hO : Own W0 w ([(g3, t3, c3)] ++ (L ++ R)) := HM.out
  have hw3 := HM.out.at_ .z
  obtain ⟨v', w', R', hr, hR', hW', hg, hn⟩ := append_one (ty := o.type) (w := w) ht hi hz hsize hby hzs hsz hbb HR.out (fun e he => (HM.out.whole e (by simp [he])).2) ⟨g3, 0, none⟩ 1 c3 h3 (fun j u hj => by
    have ha : (⟨g3, 0, none⟩ : Addr).add j = ⟨g3, j, none⟩ := by unfold Addr.add; split <;> simp_all
    rw [ha, hw3.at_ j]; exact hj) (List.all_eq_true.1 h1) hk
  have hk' := hK _ _ (h v' w' R' (Lib.hid hR') (Lib.hid (Own.appended hO HR.out hg hR' hW' hn)))
  unfold Oper.wp
  simp only [execOp, ho, resolve, invoke, builtin, hs, hy, hr, Result.andThen, Sem.run_bind, Sem.run_pure, List.map_toArray, List.map_cons, List.map_nil]
  exact hk'

end Go.Proofs.Ytcefgcoibppdaaa
