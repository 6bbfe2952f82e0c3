/-
  The blocks that a call has made, in any order; a slice whose elements take several cells, and an append to it. Nothing here speaks of the program.
-/
import Derived.Test.YtbjghlcdbmooaaaCells
import Derived.Deep.AppendLies
namespace Go.Proofs.Ytbjghlcdbmooaaa
open Go.RowKit

section
variable {W0 w w' : World} {l l' L R R' : List (Nat × TypeId × List Value)} {t : TypeId} {v v' : Value} {xs us : List Value} {n size : Nat}
theorem Own.perm (h : Own W0 w l) (hp : l.Perm l') : Own W0 w l' :=
  ⟨h.below, fun e he => h.whole e (hp.mem_iff.2 he), (List.Perm.pairwise_iff (fun h => Ne.symm h) hp).1 h.apart⟩
theorem Own.tail {l1 l2 : List (Nat × TypeId × List Value)} (h : Own W0 w (l1 ++ l2)) : Own W0 w l2 :=
  ⟨h.below, fun e he => h.whole e (by simp [he]), (List.pairwise_append.1 h.apart).2.1⟩
theorem Own.init {l1 l2 : List (Nat × TypeId × List Value)} (h : Own W0 w (l1 ++ l2)) : Own W0 w l1 :=
  ⟨h.below, fun e he => h.whole e (by simp [he]), (List.pairwise_append.1 h.apart).1⟩
theorem Sel.app {g : Nat} {cs : List Value} (h : Sel l g t cs) (X : List (Nat × TypeId × List Value)) : Sel (l ++ X) g t cs := by
  induction h with
  | z => exact .z
  | s _ ih => exact .s ih
theorem Put.app {g : Nat} {cs cs' : List Value} (h : Put l g t cs cs' l') (X : List (Nat × TypeId × List Value)) : Put (l ++ X) g t cs cs' (l' ++ X) := by
  induction h with
  | z => exact .z
  | s _ ih => exact .s ih

/-- the slice v has n elements of so many cells each, which read as xs; R: its block, if it has one -/
def RowOf (t : TypeId) (size : Nat) (R : List (Nat × TypeId × List Value)) (v : Value) (n : Nat) (xs : List Value) : Prop :=
  xs.length = n * size ∧ ((R = [] ∧ v = .slice none 0 0 ∧ n = 0) ∨
  ∃ g cap cur, R = [(g, t, cur)] ∧ v = .slice (some ⟨g, 0, none⟩) n cap ∧ n ≤ cap ∧ cap ≤ maxLen ∧ cur.length = cap * size ∧ cur.take (n * size) = xs)
theorem RowOf.nil (t : TypeId) (size : Nat) : RowOf t size [] (.slice none 0 0) 0 [] := ⟨by simp, .inl ⟨rfl, rfl, rfl⟩⟩
theorem RowOf.owns (h : RowOf t size R v n xs) {B : Nat} (hR : ∀ e ∈ R, B ≤ e.1 ∧ Whole w e.1 e.2.1 e.2.2) : w.ownsRow B t size v n xs := by
  obtain ⟨hl, ⟨-, rfl, rfl⟩ | ⟨g, cap, cur, rfl, rfl, h1, h2, h3, h4⟩⟩ := h
  · exact ⟨hl, .inl ⟨rfl, rfl⟩⟩
  · obtain ⟨hb, hw⟩ := hR (g, t, cur) (by simp)
    exact ⟨hl, .inr ⟨g, cap, cur.toArray, rfl, hb, hw, h1, h2, by simpa using h3, by simpa using h4⟩⟩

/-- behind an append: the others are as they were; the row is the new one -/
theorem Own.grow {g cap : Nat} (h : Own W0 w (L ++ R)) (hR : RowOf t size R v n xs) (hg : w.grownBy w' v.ownBlock)
    (hw' : w'.ownsRow W0.heap.size t size (.slice (some ⟨g, 0, none⟩) (n + 1) cap) (n + 1) (xs ++ us)) (hlie : v.ownBlock = some g ∨ g = w.heap.size) :
    ∃ R', RowOf t size R' (.slice (some ⟨g, 0, none⟩) (n + 1) cap) (n + 1) (xs ++ us) ∧ Own W0 w' (L ++ R') := by
  have hrow : ∀ k, v.ownBlock = some k → ∃ cur, R = [(k, t, cur)] := by
    intro k hk
    obtain ⟨-, ⟨-, rfl, -⟩ | ⟨g, cap, cur, rfl, rfl, -⟩⟩ := hR
    · cases hk
    · cases hk; exact ⟨cur, rfl⟩
  have hlo : ∀ k, v.ownBlock = some k → W0.heap.size ≤ k := by
    intro k hk
    obtain ⟨cur, hm⟩ := hrow k hk
    exact (h.whole (k, t, cur) (by simp [hm])).1
  have hap := List.pairwise_append.1 h.apart
  have hLw : ∀ e ∈ L, W0.heap.size ≤ e.1 ∧ Whole w' e.1 e.2.1 e.2.2 ∧ e.1 ≠ g := by
    intro e he
    have hx := h.whole e (by simp [he])
    have hne : some e.1 ≠ v.ownBlock := by
      intro hk
      obtain ⟨cur, hm⟩ := hrow e.1 hk.symm
      exact hap.2.2 e he (e.1, t, cur) (by simp [hm]) rfl
    refine ⟨hx.1, hx.2.grown hg hne, ?_⟩
    rcases hlie with hlie | rfl
    · rw [hlie] at hne
      exact fun h => hne (by rw [h])
    · have := hx.2.inside
      omega
  obtain ⟨hl', ⟨h0, _⟩ | ⟨g', cap', cur, hv, hb, hw, h1, h2, h3, h4⟩⟩ := hw'
  · cases h0
  · injection hv with hv1 _ hv2
    injection hv1 with hv1
    injection hv1 with hv1
    subst hv1 hv2
    refine ⟨[(g, t, cur.toList)], ⟨hl', .inr ⟨g, cap, cur.toList, rfl, rfl, h1, h2, by simpa using h3, h4⟩⟩, h.below.trans ((Below.refl _ w).grown hg h.below.size hlo), ?_, ?_⟩
    · intro e he
      rcases List.mem_append.1 he with he | he
      · exact ⟨(hLw e he).1, (hLw e he).2.1⟩
      · obtain rfl := List.mem_singleton.1 he
        exact ⟨hb, hw⟩
    · rw [List.pairwise_append]
      refine ⟨hap.1, List.pairwise_singleton _ _, ?_⟩
      intro a ha b hb'
      obtain rfl := List.mem_singleton.1 hb'
      exact (hLw a ha).2.2
end

/-- append of one element, as a walk meets it -/
theorem own_grow {P : Program} {W0 w : World} {l : List (Nat × TypeId × List Value)} {ops : Array Oper} {rest : List Oper} {o : Oper} {a : Act} {Q : Exit → Act → World → Prop} {g3 n size bytes : Nat} {t3 t e : TypeId} {L R : List (Nat × TypeId × List Value)} {v z : Value} {xs us : List Value} {s y : Operand} {i : TypeInfo}
    (HM : Hid (Own W0 w l)) (hp : l.Perm ((g3, t3, us) :: (L ++ R))) (HR : RowOf e size R v n xs) (hgd : o.guard = none)
    (ho : o.op = .call { callee := .builtin .append, args := #[s, y], argTypes := #[t, t] }) (hs : a.eval s = v) (hy : a.eval y = .slice (some ⟨g3, 0, none⟩) 1 1) (hu : us.all (·.oneCell') = true) (hl : us.length = size) (hn : n ≤ 1000000) (hb : bytes ≤ 1000)
    (ht : P.underlying t = some (.slice e)) (hi : P.info? e = some i) (hz : i.zero = some z) (hsize : i.size = size) (hby : i.bytes = bytes) (hzs : z.cells.size = size) (hsz : 0 < size)
    (h : ∀ gg cap w' R', RowOf e size R' (.slice (some ⟨gg, 0, none⟩) (n + 1) cap) (n + 1) (xs ++ us) → Hid (Own W0 w' (L ++ R')) → wpList P ops Q rest (a.put o.dst (.slice (some ⟨gg, 0, none⟩) (n + 1) cap)) w') : wpList P ops Q (o :: rest) a w := by
  have hO : Own W0 w ([(g3, t3, us)] ++ (L ++ R)) := HM.out.perm hp
  have hrow := HR.owns (w := w) (B := W0.heap.size) (fun e he => hO.whole e (by simp [he]))
  have hw3 := hO.whole (g3, t3, us) (by simp)
  refine wpList_append_lies w hgd s y t ho W0.heap.size e i z size bytes ht hi hz hsize hby hzs hsz v n xs hs hrow ⟨g3, 0, none⟩ 1 1 us hy (by omega) ?_ (by simpa using hu) (by omega) (by unfold maxLen; omega) ?_ hO.below.size w.heap.size rfl ?_
  · intro j x hj
    have := hw3.2.at_ j
    rw [show (⟨g3, 0, none⟩ : Addr).add j = ⟨g3, j, none⟩ by unfold Addr.add; split <;> simp_all, this, ← hj]
  · have : (n + 1) * bytes ≤ 1000001 * 1000 := Nat.mul_le_mul (by omega) hb
    omega
  · intro g cap w' h1 h2 h3 _
    obtain ⟨R', hR', hO'⟩ := hO.tail.grow HR h2 h1 h3
    exact h _ _ _ R' hR' hO'

end Go.Proofs.Ytbjghlcdbmooaaa
