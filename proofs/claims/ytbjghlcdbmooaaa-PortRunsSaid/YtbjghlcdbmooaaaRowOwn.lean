/-
  A slice that the call has made by appends, among the blocks that the call owns (Own): nil, or a block of which it is the first part. Nothing here speaks of the program.
-/
import Derived.Test.YtbjghlcdbmooaaaOwn
import Derived.Laws.AppendOwn
import Derived.Laws.OwnMore
namespace Go.Proofs.Ytbjghlcdbmooaaa
open Go.RowKit

/-- the slice v reads as xs; R: its block, if it has one -/
def RowIs (t : TypeId) (R : List (Nat × TypeId × List Value)) (v : Value) (xs : List Value) : Prop :=
  (R = [] ∧ v = .slice none 0 0 ∧ xs = []) ∨
  ∃ g cap cur, R = [(g, t, cur)] ∧ v = .slice (some ⟨g, 0, none⟩) xs.length cap ∧ xs.length ≤ cap ∧ cap ≤ maxLen ∧ cur.length = cap ∧ cur.take xs.length = xs

section
variable {W0 w w' : World} {l L R R' : List (Nat × TypeId × List Value)} {t : TypeId} {v v' : Value} {xs ys : List Value}
theorem RowIs.nil (t : TypeId) : RowIs t [] (.slice none 0 0) [] := .inl ⟨rfl, rfl, rfl⟩
theorem RowIs.owns (h : RowIs t R v xs) {B : Nat} (hR : ∀ e ∈ R, B ≤ e.1 ∧ Whole w e.1 e.2.1 e.2.2) : w.ownsRow B t 1 v xs.length xs := by
  refine ⟨by simp, ?_⟩
  rcases h with ⟨-, rfl, rfl⟩ | ⟨g, cap, cur, rfl, rfl, h1, h2, h3, h4⟩
  · exact .inl ⟨rfl, rfl⟩
  · obtain ⟨hb, hw⟩ := hR (g, t, cur) (by simp)
    exact .inr ⟨g, cap, cur.toArray, rfl, hb, hw, h1, h2, by simp [h3], by simpa using h4⟩
theorem rowIs_of_owns {B n : Nat} (h : w.ownsRow B t 1 v n xs) (hn : 0 < n) : ∃ R, RowIs t R v xs ∧ ∀ e ∈ R, B ≤ e.1 ∧ Whole w e.1 e.2.1 e.2.2 := by
  obtain ⟨hl, ⟨_, h0⟩ | ⟨g, cap, cur, hv, hb, hw, h1, h2, h3, h4⟩⟩ := h
  · omega
  · have hl' : xs.length = n := by simpa using hl
    subst hl'
    refine ⟨[(g, t, cur.toList)], .inr ⟨g, cap, cur.toList, rfl, hv, h1, h2, by simpa using h3, by simpa using h4⟩, ?_⟩
    intro e he
    obtain rfl := List.mem_singleton.1 he
    exact ⟨hb, hw⟩
theorem Own.add (h : Own W0 w l) (hb : Below w.heap.size w w') (hR : RowIs t R v xs) (hW : ∀ e ∈ R, w.heap.size ≤ e.1 ∧ Whole w' e.1 e.2.1 e.2.2) : Own W0 w' (l ++ R) := by
  have h' := h.call hb
  refine ⟨h'.below, ?_, ?_⟩
  · intro e he
    rcases List.mem_append.1 he with he | he
    · exact h'.whole e he
    · exact ⟨Nat.le_trans h.below.size (hW e he).1, (hW e he).2⟩
  · rw [List.pairwise_append]
    refine ⟨h.apart, ?_, ?_⟩
    · rcases hR with ⟨rfl, -⟩ | ⟨g, cap, cur, rfl, -⟩
      · exact .nil
      · exact List.pairwise_singleton _ _
    · intro a ha b hb'
      have := (h.whole a ha).2.inside
      have := (hW b hb').1
      omega
/-- behind an append: the others are as they were; the row is the new one -/
theorem Own.append {E : List (Nat × TypeId × List Value)} (h : Own W0 w (E ++ (L ++ R))) (hL : ∀ e ∈ L, e.2.1 ≠ t) (hR : RowIs t R v xs) (hg : w.grownBy w' v.ownBlock)
    (hR' : RowIs t R' v' ys) (hW : ∀ e ∈ R', W0.heap.size ≤ e.1 ∧ Whole w' e.1 e.2.1 e.2.2) : Own W0 w' (L ++ R') := by
  have hrow : ∀ k, v.ownBlock = some k → ∃ cur, (k, t, cur) ∈ R := by
    intro k hk
    rcases hR with ⟨-, rfl, -⟩ | ⟨g, cap, cur, rfl, rfl, -⟩
    · cases hk
    · cases hk; exact ⟨cur, by simp⟩
  have hlo : ∀ k, v.ownBlock = some k → W0.heap.size ≤ k := by
    intro k hk
    obtain ⟨cur, hm⟩ := hrow k hk
    exact (h.whole (k, t, cur) (by simp [hm])).1
  have hap := (List.pairwise_append.1 (List.pairwise_append.1 h.apart).2.1)
  have hLw : ∀ e ∈ L, W0.heap.size ≤ e.1 ∧ Whole w' e.1 e.2.1 e.2.2 := by
    intro e he
    have hx := h.whole e (by simp [he])
    refine ⟨hx.1, hx.2.grown hg ?_⟩
    intro hk
    obtain ⟨cur, hm⟩ := hrow e.1 hk.symm
    exact hap.2.2 e he (e.1, t, cur) hm rfl
  refine ⟨h.below.trans ((Below.refl _ w).grown hg h.below.size hlo), ?_, ?_⟩
  · intro e he
    rcases List.mem_append.1 he with he | he
    · exact hLw e he
    · exact hW e he
  · rw [List.pairwise_append]
    refine ⟨hap.1, ?_, ?_⟩
    · rcases hR' with ⟨rfl, -⟩ | ⟨g, cap, cur, rfl, -⟩
      · exact .nil
      · exact List.pairwise_singleton _ _
    · intro a ha b hb
      have hb' := (hW b hb).2
      have ha' := (hLw a ha).2
      have ht : b.2.1 = t := by
        rcases hR' with ⟨rfl, -⟩ | ⟨g, cap, cur, rfl, -⟩
        · cases hb
        · obtain rfl := List.mem_singleton.1 hb; rfl
      exact ha'.apart hb' (by rw [ht]; exact hL a ha)
theorem Own.row (h : Own W0 w (l ++ R)) : ∀ e ∈ R, W0.heap.size ≤ e.1 ∧ Whole w e.1 e.2.1 e.2.2 := fun e he => h.whole e (by simp [he])
end

/-- the results: a block's cells, and a slot -/
theorem own_results2 {P : Program} {W0 w : World} {l : List (Nat × TypeId × List Value)} {fn : Func} {p q : Tmp} {ty t : TypeId} {g : Nat} {cs : List Value} {v : Value} (HM : Hid (Own W0 w l)) (h : fn.results = #[.cell p ty, .tmp q]) (tmps : Array Value) (hp : tmps.getD p undef = .pointer (some ⟨g, 0, none⟩)) (hq : tmps.getD q undef = v) (hs : Sel l g t cs)
    (hty : Agg P ty cs.length) : (results fn tmps).run P w = .ok (.tuple #[.agg cs.toArray, v]) w := by
  obtain ⟨⟨d, hu, hr⟩, hsz⟩ := hty
  have hp' : tmps[p]?.getD undef = .pointer (some ⟨g, 0, none⟩) := by simpa using hp
  have hq' : tmps[q]?.getD undef = v := by simpa using hq
  have hl := run_loadVar_mid (P := P) w g 0 ty cs d (fun j v hv => by rw [(HM.out.at_ hs).at_, Nat.zero_add]; exact hv) hu hr hsz
  simp [results, h, hp', hq', asAddr, hl]

end Go.Proofs.Ytbjghlcdbmooaaa
