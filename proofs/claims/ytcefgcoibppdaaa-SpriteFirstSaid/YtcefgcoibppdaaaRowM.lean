/-
  Appends of many elements onto a slice of the call's own, and slices that are made, one operation of a drawn region each. Nothing here speaks of the program.
-/
import Derived.Test.YtcefgcoibppdaaaRowN2
import Derived.Test.YtcefgcoibppdaaaTakes
import Derived.Test.YtcefgcoibppdaaaSpTri
namespace Go.Proofs.Ytcefgcoibppdaaa
open Go.RowKit

section
variable {P : Program} {W0 w w' : World} {l L R R' : List (Nat × TypeId × List Value)} {t : TypeId} {v v' : Value} {xs ys : List Value} {sz k : Nat}
theorem append_many {tS ty : TypeId} {i : TypeInfo} {z : Value} {bytes : Nat} (ht : P.underlying tS = some (.slice t)) (hi : P.info? t = some i) (hz : i.zero = some z)
    (hsize : i.size = sz) (hby : i.bytes = bytes) (hzs : z.cells.size = sz) (hsz : 0 < sz) (hbb : bytes ≤ 64)
    (HR : RowN sz t R v k xs) (hW : ∀ e ∈ R, Whole w e.1 e.2.1 e.2.2) (ad : Addr) (m c : Nat) (news : List Value) (hl : news.length = m * sz) (hnews : ∀ j u, news[j]? = some u → w.cell? (ad.add j) = some u) (h1 : ∀ u ∈ news, u.oneCell' = true) (hk : k + m ≤ 100000) :
    ∃ v' w' R', (Builtin.append_ #[tS, tS] ty #[v, .slice (some ad) m c]).run P w = .ok v' w' ∧ RowN sz t R' v' (k + m) (xs ++ news) ∧ (∀ e ∈ R', Whole w' e.1 e.2.1 e.2.2) ∧ w.grownBy w' v.ownBlock ∧
      ∀ e ∈ R', (∃ e0 ∈ R, e0.1 = e.1) ∨ w.heap.size ≤ e.1 := by
  have hb2 : (k + m) * bytes ≤ 140737488355328 := by
    have : (k + m) * bytes ≤ 100000 * 64 := Nat.mul_le_mul hk hbb
    omega
  have h63 : k + m ≤ maxLen := by unfold maxLen; omega
  obtain ⟨hlx, ⟨rfl, rfl, rfl⟩ | ⟨g, cap, cur, rfl, rfl, hc1, hc2, hc3, hc4⟩⟩ := HR
  · obtain ⟨v', w', hr, ho, hg, -⟩ := run_append_own (P := P) w w.heap.size tS ty t i z sz bytes ht hi hz hsize hby hzs hsz _ 0 xs ⟨hlx, .inl ⟨rfl, rfl⟩⟩ ad m c news hl hnews h1 h63 hb2 (Nat.le_refl _)
    obtain ⟨R', hR', hW'⟩ := rowN_of_owns ho
    exact ⟨v', w', R', hr, hR', fun e he => (hW' e he).2, hg, fun e he => .inr (hW' e he).1⟩
  · have hwg := hW (g, t, cur) (by simp)
    have hown : w.ownsRow 0 t sz (.slice (some ⟨g, 0, none⟩) k cap) k xs := RowN.owns ⟨hlx, .inr ⟨g, cap, cur, rfl, rfl, hc1, hc2, hc3, hc4⟩⟩ (fun e he => by
      obtain rfl := List.mem_singleton.1 he
      exact ⟨Nat.zero_le _, hwg⟩)
    by_cases hroom : k + m ≤ cap
    · obtain ⟨w', hr, ho, hg⟩ := run_append_fits (P := P) w 0 tS ty t i sz ht hi hsize g k cap xs hown ad m c news hl hnews h1 hroom
      obtain ⟨R', hR', hW'⟩ := rowN_of_owns ho
      refine ⟨_, w', R', hr, hR', fun e he => (hW' e he).2, hg, fun e he => .inl ⟨(g, t, cur), by simp, ?_⟩⟩
      obtain ⟨-, ⟨-, hv, -⟩ | ⟨g', cap', cur', rfl, hv, -⟩⟩ := hR'
      · cases hv
      · obtain rfl := List.mem_singleton.1 he
        cases hv; rfl
    · have holds : ∀ j u, xs[j]? = some u → w.cell? ((⟨g, 0, none⟩ : Addr).add j) = some u := hown.cells (g := g) rfl
      have hr := run_append_grow (P := P) w tS ty t i z ht hi hz ⟨g, 0, none⟩ k cap xs (by rw [hlx, hsize]) holds ad m c news (by rw [hl, hsize]) hnews (by omega) (by unfold maxLen at h63; omega) (by rw [hby]; exact growslice_fits (by omega) hb2)
      have hge := grownCap_ge w (k + m) cap t
      have hcm : grownCap w (k + m) cap t ≤ maxLen := grownCap_le_maxLen w (k + m) cap t h63
      have hlen : (xs ++ news).length = (k + m) * sz := by rw [List.length_append, hlx, hl, Nat.add_mul]
      refine ⟨_, _, [(w.heap.size, t, (xs.toArray ++ news.toArray ++ Builtin.zeroCells z.cells (grownCap w (k + m) cap t - (k + m))).toList)], hr, ⟨hlen, .inr ⟨_, _, _, rfl, rfl, hge, hcm, ?_, ?_⟩⟩, ?_, ⟨rfl, rfl, rfl, by simp, fun k' hk' _ => heap_alloc_old w.drew _ hk'⟩, ?_⟩
      · simp only [Array.length_toList, Array.size_append, List.size_toArray, size_zeroCells, hzs, hlx, hl]
        have : grownCap w (k + m) cap t = k + m + (grownCap w (k + m) cap t - (k + m)) := by omega
        rw [this, Nat.add_sub_cancel_left, Nat.add_mul, Nat.add_mul]
      · simp only [Array.toList_append, List.append_assoc]
        rw [← List.append_assoc, ← hlen]
        exact List.take_left
      · intro e he
        obtain rfl := List.mem_singleton.1 he
        show _ = some (Obj.cells (Array.toList _).toArray t (0, 0))
        rw [Array.toArray_toList]
        exact heap_alloc_new w.drew _
      · intro e he
        obtain rfl := List.mem_singleton.1 he
        exact .inr (Nat.le_refl _)
theorem Own.front (h : Own W0 w (l ++ R)) : Own W0 w l :=
  ⟨h.below, fun e he => h.whole e (by simp [he]), (List.pairwise_append.1 h.apart).1⟩
variable {ops : Array Oper} {o : Oper} {a : Act} {K : Act → World → Prop} {Q : Exit → Act → World → Prop}
theorem w_made {e : TypeId} {n : Nat} {cs : List Value} (HM : Hid (Own W0 w l)) {tS : TypeId} {parts : Array (Nat × Operand)} (ho : o.op = .buildSlice tS n parts) {parts' : Array (Nat × Value)} (hx : ∀ w, (Instr.buildSlice tS n parts').run P w = .ok (.slice (some ⟨w.heap.size, 0, none⟩) n n) (w.alloc (.cells cs.toArray e))) (hp : (parts.map fun (i, x) => (i, a.eval x)) = parts')
    (h : ∀ w' g, Hid (Own W0 w' ((g, e, cs) :: l)) → K (a.put o.dst (.slice (some ⟨g, 0, none⟩) n n)) w') : o.wp P a w K Q := by
  unfold Oper.wp execOp
  simp only [ho, Sem.run_bind, hp]
  rw [hx]
  exact h _ _ (HM.out.new e cs)
theorem y_built {S : World → Prop} {tS : TypeId} {parts : Array (Nat × Operand)} {v : Value} {parts' : Array (Nat × Value)} (hx : ∀ w, (Instr.build tS parts').run P w = .ok v w) (ho : o.op = .build tS parts) (hp : (parts.map fun (i, x) => (i, a.eval x)) = parts') (hw : Region.wanted o (yielded ops a.tmps) = true) : YieldsIf P ops S o v a :=
  .inl ⟨hw, fun w _ => by unfold execOp; simp only [ho, Sem.run_bind, hp, hx, Result.andThen_ok, Sem.run_pure]⟩
/-- what is appended: nil, or a slice whose cells are these -/
def Src (w : World) (src : Value) (m : Nat) (news : List Value) : Prop := (src = .slice none 0 0 ∧ m = 0 ∧ news = []) ∨ ∃ ad c, src = .slice (some ad) m c ∧ ∀ j u, news[j]? = some u → w.cell? (ad.add j) = some u
theorem w_append {l0 : List (Nat × TypeId × List Value)} {s y : Operand} {tS : TypeId} {i : TypeInfo} {z : Value} {bytes m : Nat} {news : List Value} {src : Value} (HM : Hid (Own W0 w l0)) (HR : Hid (RowN sz t R v k xs)) (hp : l0.Perm (L ++ R))
    (ho : o.op = .call { callee := .builtin .append, args := #[s, y], argTypes := #[tS, tS] }) (hs : a.eval s = v) (hy : a.eval y = src) (hsrc : Src w src m news)
    (ht : P.underlying tS = some (.slice t)) (hi : P.info? t = some i) (hz : i.zero = some z) (hsize : i.size = sz) (hby : i.bytes = bytes) (hzs : z.cells.size = sz) (hsz : 0 < sz) (hbb : bytes ≤ 64) (hl : news.length = m * sz) (h1 : news.all (·.oneCell') = true) (hk : k + m ≤ 100000)
    (h : ∀ v' w' R', Hid (RowN sz t R' v' (k + m) (xs ++ news)) → Hid (Own W0 w' (L ++ R')) → K (a.put o.dst v') w') : o.wp P a w K Q := by
  have hO : Own W0 w ([] ++ (L ++ R)) := HM.out.perm hp
  have hWR : ∀ e ∈ R, Whole w e.1 e.2.1 e.2.2 := fun e he => (hO.whole e (by simp [he])).2
  unfold Oper.wp
  rcases hsrc with ⟨rfl, rfl, rfl⟩ | ⟨ad, c, rfl, hn⟩
  · have hown : w.ownsRow 0 t sz v k xs := HR.out.owns fun e he => ⟨Nat.zero_le _, hWR e he⟩
    have hr := run_append_owned_none (P := P) (w := w) 0 tS o.type t i sz ht hi v k xs hown
    simp only [execOp, ho, resolve, invoke, builtin, hs, hy, hr, Result.andThen, Sem.run_bind, Sem.run_pure, List.map_toArray, List.map_cons, List.map_nil]
    exact h v w R (by rw [List.append_nil]; exact HR) (Lib.hid (by simpa using hO))
  · obtain ⟨v', w', R', hr, hR', hW', hg, hnw⟩ := append_many (ty := o.type) (w := w) ht hi hz hsize hby hzs hsz hbb HR.out hWR ad m c news hl hn (List.all_eq_true.1 h1) hk
    simp only [execOp, ho, resolve, invoke, builtin, hs, hy, hr, Result.andThen, Sem.run_bind, Sem.run_pure, List.map_toArray, List.map_cons, List.map_nil]
    exact h v' w' R' (Lib.hid hR') (Lib.hid (Own.appended hO HR.out hg hR' hW' hnw))
theorem src_own {g : Nat} {t3 : TypeId} {cs : List Value} {m c : Nat} (h : Whole w g t3 cs) : Src w (.slice (some ⟨g, 0, none⟩) m c) m cs :=
  .inr ⟨_, c, rfl, fun j u hj => by
    have ha : (⟨g, 0, none⟩ : Addr).add j = ⟨g, j, none⟩ := by unfold Addr.add; split <;> simp_all
    rw [ha, h.at_ j]; exact hj⟩
theorem tris_all (sp : Nat → Nat → Nat) : ∀ n, (tris sp n).all (·.oneCell') = true
  | 0 => rfl
  | n + 1 => by
    show (tris sp n ++ _).all _ = true
    rw [List.all_append, tris_all sp n]; rfl
theorem src_tri {ad : Option Addr} {n c : Nat} {sp : Nat → Nat → Nat} (h : TriRow w ad n sp) (hn : ad = none → n = 0 ∧ c = 0) : Src w (.slice ad n c) n (tris sp n) := by
  cases ad with
  | none =>
    obtain ⟨rfl, rfl⟩ := hn rfl
    exact .inl ⟨rfl, rfl, rfl⟩
  | some ad =>
    refine .inr ⟨ad, c, rfl, fun j u hj => ?_⟩
    have hj3 : j < n * 3 := by
      have := (List.getElem?_eq_some_iff.1 hj).1
      rwa [tris_length] at this
    obtain ⟨g, o, e, _, hc⟩ := h (by omega)
    cases e
    have ha : (⟨g, o, none⟩ : Addr).add j = ⟨g, o + j, none⟩ := by unfold Addr.add; split <;> simp_all
    have hd := (hc (j / 3) (by omega) (j % 3) (by omega)).1
    rw [show o + j / 3 * 3 + j % 3 = o + j by omega] at hd
    have ht := tris_get sp n (j / 3) (j % 3) (by omega) (by omega)
    rw [show j / 3 * 3 + j % 3 = j by omega, hj] at ht
    rw [ha, hd, ht]
end

end Go.Proofs.Ytcefgcoibppdaaa
