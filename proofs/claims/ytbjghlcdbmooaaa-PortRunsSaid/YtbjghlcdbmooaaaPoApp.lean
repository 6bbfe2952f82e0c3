/-
  An append of a piece of a block of the call's own onto a slice of the call's own; blocks that an operation makes. Nothing here speaks of the program but the type of bytes.
-/
import Derived.Test.YtbjghlcdbmooaaaPoKinds
import Derived.Test.YtbjghlcdbmooaaaMade
import Derived.Test.YtbjghlcdbmooaaaZeros
import Derived.OwnWalk
import Derived.Deep.RegionLaw
namespace Go.Proofs.Ytbjghlcdbmooaaa
open Go.RowKit

section
variable {W0 w w' : World} {l L R : Blks} {t : TypeId} {v : Value} {xs us : List Value} {n size m : Nat}
/-- behind an append of several elements: the others are as they were; the row is the new one -/
theorem Own.grewN {g cap : Nat} (h : Own W0 w (L ++ R)) (hR : RowOf t size R v n xs) (hg : w.grownBy w' v.ownBlock)
    (hw' : w'.ownsRow W0.heap.size t size (.slice (some ⟨g, 0, none⟩) (n + m) cap) (n + m) (xs ++ us)) (hlie : v.ownBlock = some g ∨ g = w.heap.size) :
    ∃ R', RowOf t size R' (.slice (some ⟨g, 0, none⟩) (n + m) cap) (n + m) (xs ++ us) ∧ Own W0 w' (L ++ R') := by
  have hrow : ∀ k, v.ownBlock = some k → ∃ cur, R = [(k, t, cur)] := by
    intro k hk
    obtain ⟨-, ⟨-, rfl, -⟩ | ⟨g, cap, cur, rfl, rfl, -⟩⟩ := hR
    · cases hk
    · cases hk; exact ⟨cur, rfl⟩
  have hlo : ∀ k, v.ownBlock = some k → W0.heap.size ≤ k := by
    intro k hk
    obtain ⟨cur, hm⟩ := hrow k hk
    exact (h.whole (k, t, cur) (by simp [hm])).1
  have hap := List.pairwise_append.1 h.apart
  have hLw : ∀ e ∈ L, W0.heap.size ≤ e.1 ∧ Whole w' e.1 e.2.1 e.2.2 ∧ e.1 ≠ g := by
    intro e he
    have hx := h.whole e (by simp [he])
    have hne : some e.1 ≠ v.ownBlock := by
      intro hk
      obtain ⟨cur, hm⟩ := hrow e.1 hk.symm
      exact hap.2.2 e he (e.1, t, cur) (by simp [hm]) rfl
    refine ⟨hx.1, hx.2.grown hg hne, ?_⟩
    rcases hlie with hlie | rfl
    · rw [hlie] at hne
      exact fun h => hne (by rw [h])
    · have := hx.2.inside
      omega
  obtain ⟨hl', ⟨h0, _⟩ | ⟨g', cap', cur, hv, hb, hw, h1, h2, h3, h4⟩⟩ := hw'
  · cases h0
  · injection hv with hv1 _ hv2
    injection hv1 with hv1
    injection hv1 with hv1
    subst hv1 hv2
    refine ⟨[(g, t, cur.toList)], ⟨hl', .inr ⟨g, cap, cur.toList, rfl, rfl, h1, h2, by simpa using h3, h4⟩⟩, h.below.trans ((Below.refl _ w).grown hg h.below.size hlo), ?_, ?_⟩
    · intro e he
      rcases List.mem_append.1 he with he | he
      · exact ⟨(hLw e he).1, (hLw e he).2.1⟩
      · obtain rfl := List.mem_singleton.1 he
        exact ⟨hb, hw⟩
    · rw [List.pairwise_append]
      refine ⟨hap.1, List.pairwise_singleton _ _, ?_⟩
      intro a ha b hb'
      obtain rfl := List.mem_singleton.1 hb'
      exact (hLw a ha).2.2
end

section
variable {W0 w : World} {l L R : Blks} {ops : Array Oper} {rest : List Oper} {o : Oper} {a : Act} {Q : Exit → Act → World → Prop} {K : Act → World → Prop} {gm off n m c : Nat} {t3 : TypeId} {v : Value} {xs cs us : List Value} {s y : Operand}
theorem wp_joins (HM : Hid (Own W0 w l)) (hp : l.Perm (L ++ R)) (HR : RowOf 5 1 R v n xs) (hsrc : Sel l gm t3 cs)
    (ho : o.op = .call { callee := .builtin .append, args := #[s, y], argTypes := #[25, 25] }) (hs : a.eval s = v) (hy : a.eval y = .slice (some ⟨gm, off, none⟩) m c)
    (hus : ∀ (j : Nat) (u : Value), us[j]? = some u → cs[off + j]? = some u) (h1 : ∀ u ∈ us, u.oneCell' = true) (hl : us.length = m) (hm : 0 < m) (hn : n + m ≤ 1000000)
    (h : ∀ gg cap w' R', RowOf 5 1 R' (.slice (some ⟨gg, 0, none⟩) (n + m) cap) (n + m) (xs ++ us) → Hid (Own W0 w' (L ++ R')) → K (a.put o.dst (.slice (some ⟨gg, 0, none⟩) (n + m) cap)) w') : o.wp Try.prog a w K Q := by
  have hi : (Try.prog.info? 5).map (fun i => (i.zero, i.size, i.bytes)) = some (some (.int .u8 0), 1, 1) := by kernel_rfl
  obtain ⟨i0, hi, hz0, hz1, hz2⟩ := info_parts hi
  have hO : Own W0 w (L ++ R) := HM.out.perm hp
  have hrow := HR.owns (w := w) (B := W0.heap.size) (fun e he => hO.whole e (by simp [he]))
  have hw3 := HM.out.at_ hsrc
  refine wp_append_lies w s y _ ho W0.heap.size 5 i0 (.int .u8 0) 1 1 Try.underlying25 hi hz0 hz1 hz2 rfl (by decide) v n xs hs hrow ⟨gm, off, none⟩ m c us hy (by omega) ?_ h1 hm (by unfold maxLen; omega) (by omega) hO.below.size w.heap.size rfl ?_
  · intro j x hj
    have := hw3.at_ (off + j)
    rw [show (⟨gm, off, none⟩ : Addr).add j = ⟨gm, off + j, none⟩ by unfold Addr.add; split <;> simp_all, this]
    exact hus j x hj
  · intro g cap w' h1 h2 h3 _
    obtain ⟨R', hR', hO'⟩ := hO.grewN HR h2 h1 h3
    exact h _ _ _ R' hR' hO'
/-- in a list of operations -/
theorem own_joins (HM : Hid (Own W0 w l)) (hp : l.Perm (L ++ R)) (HR : RowOf 5 1 R v n xs) (hsrc : Sel l gm t3 cs)
    (ho : o.op = .call { callee := .builtin .append, args := #[s, y], argTypes := #[25, 25] }) (hs : a.eval s = v) (hy : a.eval y = .slice (some ⟨gm, off, none⟩) m c)
    (hus : ∀ (j : Nat) (u : Value), us[j]? = some u → cs[off + j]? = some u) (h1 : ∀ u ∈ us, u.oneCell' = true) (hl : us.length = m) (hm : 0 < m) (hn : n + m ≤ 1000000) (hw : Region.wanted o (yielded ops a.tmps) = true)
    (h : ∀ gg cap w' R', RowOf 5 1 R' (.slice (some ⟨gg, 0, none⟩) (n + m) cap) (n + m) (xs ++ us) → Hid (Own W0 w' (L ++ R')) → wpList Try.prog ops Q rest (a.put o.dst (.slice (some ⟨gg, 0, none⟩) (n + m) cap)) w') : wpList Try.prog ops Q (o :: rest) a w :=
  wpList_wanted hw fun _ hK => wp_joins HM hp HR hsrc ho hs hy hus h1 hl hm hn fun gg cap w' R' h2 h3 => hK _ _ (h gg cap w' R' h2 h3)
/-- at a step of a region that draws its order -/
theorem step_joins {E : Prop} (HM : Hid (Own W0 w l)) (hp : l.Perm (L ++ R)) (HR : RowOf 5 1 R v n xs) (hsrc : Sel l gm t3 cs) (hgd : o.guard = none)
    (ho : o.op = .call { callee := .builtin .append, args := #[s, y], argTypes := #[25, 25] }) (hs : a.eval s = v) (hy : a.eval y = .slice (some ⟨gm, off, none⟩) m c)
    (hus : ∀ (j : Nat) (u : Value), us[j]? = some u → cs[off + j]? = some u) (h1 : ∀ u ∈ us, u.oneCell' = true) (hl : us.length = m) (hm : 0 < m) (hn : n + m ≤ 1000000)
    (h : ∀ gg cap w' R', RowOf 5 1 R' (.slice (some ⟨gg, 0, none⟩) (n + m) cap) (n + m) (xs ++ us) → Hid (Own W0 w' (L ++ R')) → K (a.put o.dst (.slice (some ⟨gg, 0, none⟩) (n + m) cap)) w') :
    if Region.wanted o (yielded ops a.tmps) = true then Oper.wp Try.prog o a w K Q else E := by
  have hw : Region.wanted o (yielded ops a.tmps) = true := by simp [Region.wanted, hgd]
  rw [if_pos hw]
  exact wp_joins HM hp HR hsrc ho hs hy hus h1 hl hm hn h
/-- makeSlice, of the call's own -/
theorem own_makes {t e : TypeId} {x y : Operand} {u v : Value} {n m : Nat} {cs : List Value} (HM : Hid (Own W0 w l)) (ho : o.op = .makeSlice t x y) (hx : a.eval x = u) (hy : a.eval y = v)
    (hr : ∀ w, (Instr.makeSlice t u v).run Try.prog w = .ok (.slice (some ⟨w.heap.size, 0, none⟩) n m) (w.alloc (.cells cs.toArray e))) (hw : Region.wanted o (yielded ops a.tmps) = true)
    (h : ∀ w' g, Hid (Own W0 w' ((g, e, cs) :: l)) → wpList Try.prog ops Q rest (a.put o.dst (.slice (some ⟨g, 0, none⟩) n m)) w') : wpList Try.prog ops Q (o :: rest) a w := by
  refine wpList_wanted hw fun K hK => ?_
  unfold Oper.wp execOp
  simp only [ho, Sem.run_bind, hx, hy, hr]
  exact hK _ _ (h _ _ (HM.out.new e cs))
end

theorem makes_bytes (k n : Nat) (hk : k ≤ n) (h : n ≤ 2147483647) (w : World) :
    (Instr.makeSlice 25 (.int .i64 (k : Int)) (.int .i64 (n : Int))).run Try.prog w = .ok (.slice (some ⟨w.heap.size, 0, none⟩) k n) (w.alloc (.cells (n8 (List.replicate n 0)).toArray 5)) := by
  obtain ⟨i0, hi, hz0, hz1, hz2⟩ := info_parts (show (Try.prog.info? 5).map (fun i => (i.zero, i.size, i.bytes)) = some (some (.int .u8 0), 1, 1) by kernel_rfl)
  have hr := run_make (P := Try.prog) w 25 5 i0 (.int .u8 0) Try.underlying25 hi hz0 .i64 .i64 (k : Int) (n : Int) (by omega) (by omega) (by rw [hz2]; omega) (by omega)
  rw [hr]
  rw [Int.toNat_natCast, Int.toNat_natCast, hz1, Nat.mul_one]
  congr 3
  apply Array.ext'
  rw [show (Value.int IntKind.u8 0).cells = #[Value.int IntKind.u8 0] from rfl, toList_madeCells_one]
  simp [n8]

end Go.Proofs.Ytbjghlcdbmooaaa
