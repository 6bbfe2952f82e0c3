/-
  Two rows that the call makes by appends, beside each other. Nothing here speaks of the program.
-/
import Derived.Test.YtcefgcoibppdaaaRowN
namespace Go.Proofs.Ytcefgcoibppdaaa
open Go.RowKit

section
variable {P : Program} {W0 w : World} {ops : Array Oper} {rest : List Oper} {o : Oper} {a : Act} {Q : Exit → Act → World → Prop} {L R R2 : List (Nat × TypeId × List Value)} {g3 k sz : Nat} {c3 xs : List Value} {t3 t tS : TypeId} {v : Value} {s y : Operand} {i : TypeInfo} {z : Value} {bytes : Nat}
theorem own_appends_a (HM : Hid (Own W0 w ((g3, t3, c3) :: (L ++ (R ++ R2))))) (HR : Hid (RowN sz t R v k xs)) (ht : P.underlying tS = some (.slice t)) (hi : P.info? t = some i) (hz : i.zero = some z)
    (hsize : i.size = sz) (hby : i.bytes = bytes) (hzs : z.cells.size = sz) (hsz : 0 < sz) (hbb : bytes ≤ 64) (h3 : c3.length = sz) (h1 : c3.all (·.oneCell') = true) (hk : k ≤ 100000)
    (ho : o.op = .call { callee := .builtin .append, args := #[s, y], argTypes := #[tS, tS] }) (hs : a.eval s = v) (hy : a.eval y = .slice (some ⟨g3, 0, none⟩) 1 1) (hw : Region.wanted o (yielded ops a.tmps) = true)
    (h : ∀ v' w' R', Hid (RowN sz t R' v' (k + 1) (xs ++ c3)) → Hid (Own W0 w' (L ++ (R' ++ R2))) → wpList P ops Q rest (a.put o.dst v') w') : wpList P ops Q (o :: rest) a w :=
  own_appends (L := L ++ R2) (R := R) (Lib.hid (HM.out.perm (by rw [List.append_assoc]; exact (List.perm_append_comm.append_left L).cons _))) HR ht hi hz hsize hby hzs hsz hbb h3 h1 hk ho hs hy hw
    fun v' w' R' HR' HM' => h v' w' R' HR' (Lib.hid (HM'.out.perm (by rw [List.append_assoc]; exact List.perm_append_comm.append_left L)))
theorem own_appends_b (HM : Hid (Own W0 w ((g3, t3, c3) :: (L ++ (R2 ++ R))))) (HR : Hid (RowN sz t R v k xs)) (ht : P.underlying tS = some (.slice t)) (hi : P.info? t = some i) (hz : i.zero = some z)
    (hsize : i.size = sz) (hby : i.bytes = bytes) (hzs : z.cells.size = sz) (hsz : 0 < sz) (hbb : bytes ≤ 64) (h3 : c3.length = sz) (h1 : c3.all (·.oneCell') = true) (hk : k ≤ 100000)
    (ho : o.op = .call { callee := .builtin .append, args := #[s, y], argTypes := #[tS, tS] }) (hs : a.eval s = v) (hy : a.eval y = .slice (some ⟨g3, 0, none⟩) 1 1) (hw : Region.wanted o (yielded ops a.tmps) = true)
    (h : ∀ v' w' R', Hid (RowN sz t R' v' (k + 1) (xs ++ c3)) → Hid (Own W0 w' (L ++ (R2 ++ R'))) → wpList P ops Q rest (a.put o.dst v') w') : wpList P ops Q (o :: rest) a w :=
  own_appends (L := L ++ R2) (R := R) (Lib.hid (by have e := HM.out; rw [← List.append_assoc] at e; exact e)) HR ht hi hz hsize hby hzs hsz hbb h3 h1 hk ho hs hy hw
    fun v' w' R' HR' HM' => h v' w' R' HR' (Lib.hid (by have e := HM'.out; rw [List.append_assoc] at e; exact e))
/-- the same three, with what tells the operation first: quick to fail elsewhere -/
theorem own_app {l0 : List (Nat × TypeId × List Value)} (HM : Hid (Own W0 w l0)) (HR : Hid (RowN sz t R v k xs)) (ho : o.op = .call { callee := .builtin .append, args := #[s, y], argTypes := #[tS, tS] }) (hs : a.eval s = v) (hy : a.eval y = .slice (some ⟨g3, 0, none⟩) 1 1) (hl : l0 = (g3, t3, c3) :: (L ++ R)) (ht : P.underlying tS = some (.slice t)) (hi : P.info? t = some i) (hz : i.zero = some z)
    (hsize : i.size = sz) (hby : i.bytes = bytes) (hzs : z.cells.size = sz) (hsz : 0 < sz) (hbb : bytes ≤ 64) (h3 : c3.length = sz) (h1 : c3.all (·.oneCell') = true) (hk : k ≤ 100000) (hw : Region.wanted o (yielded ops a.tmps) = true)
    (h : ∀ v' w' R', Hid (RowN sz t R' v' (k + 1) (xs ++ c3)) → Hid (Own W0 w' (L ++ R')) → wpList P ops Q rest (a.put o.dst v') w') : wpList P ops Q (o :: rest) a w := by
  subst hl
  exact own_appends HM HR ht hi hz hsize hby hzs hsz hbb h3 h1 hk ho hs hy hw h
theorem own_app_a {l0 : List (Nat × TypeId × List Value)} (HM : Hid (Own W0 w l0)) (HR : Hid (RowN sz t R v k xs)) (ho : o.op = .call { callee := .builtin .append, args := #[s, y], argTypes := #[tS, tS] }) (hs : a.eval s = v) (hy : a.eval y = .slice (some ⟨g3, 0, none⟩) 1 1) (hl : l0 = (g3, t3, c3) :: (L ++ (R ++ R2))) (ht : P.underlying tS = some (.slice t)) (hi : P.info? t = some i) (hz : i.zero = some z)
    (hsize : i.size = sz) (hby : i.bytes = bytes) (hzs : z.cells.size = sz) (hsz : 0 < sz) (hbb : bytes ≤ 64) (h3 : c3.length = sz) (h1 : c3.all (·.oneCell') = true) (hk : k ≤ 100000) (hw : Region.wanted o (yielded ops a.tmps) = true)
    (h : ∀ v' w' R', Hid (RowN sz t R' v' (k + 1) (xs ++ c3)) → Hid (Own W0 w' (L ++ (R' ++ R2))) → wpList P ops Q rest (a.put o.dst v') w') : wpList P ops Q (o :: rest) a w := by
  subst hl
  exact own_appends_a HM HR ht hi hz hsize hby hzs hsz hbb h3 h1 hk ho hs hy hw h
theorem own_app_b {l0 : List (Nat × TypeId × List Value)} (HM : Hid (Own W0 w l0)) (HR : Hid (RowN sz t R v k xs)) (ho : o.op = .call { callee := .builtin .append, args := #[s, y], argTypes := #[tS, tS] }) (hs : a.eval s = v) (hy : a.eval y = .slice (some ⟨g3, 0, none⟩) 1 1) (hl : l0 = (g3, t3, c3) :: (L ++ (R2 ++ R))) (ht : P.underlying tS = some (.slice t)) (hi : P.info? t = some i) (hz : i.zero = some z)
    (hsize : i.size = sz) (hby : i.bytes = bytes) (hzs : z.cells.size = sz) (hsz : 0 < sz) (hbb : bytes ≤ 64) (h3 : c3.length = sz) (h1 : c3.all (·.oneCell') = true) (hk : k ≤ 100000) (hw : Region.wanted o (yielded ops a.tmps) = true)
    (h : ∀ v' w' R', Hid (RowN sz t R' v' (k + 1) (xs ++ c3)) → Hid (Own W0 w' (L ++ (R2 ++ R'))) → wpList P ops Q rest (a.put o.dst v') w') : wpList P ops Q (o :: rest) a w := by
  subst hl
  exact own_appends_b HM HR ht hi hz hsize hby hzs hsz hbb h3 h1 hk ho hs hy hw h
theorem Own.rows1 {l R1 R2 : List (Nat × TypeId × List Value)} (h : Own W0 w (l ++ (R1 ++ R2))) : ∀ e ∈ R1, W0.heap.size ≤ e.1 ∧ Whole w e.1 e.2.1 e.2.2 := fun e he => h.whole e (by simp [he])
theorem Own.rows2 {l R1 R2 : List (Nat × TypeId × List Value)} (h : Own W0 w (l ++ (R1 ++ R2))) : ∀ e ∈ R2, W0.heap.size ≤ e.1 ∧ Whole w e.1 e.2.1 e.2.2 := fun e he => h.whole e (by simp [he])
end

end Go.Proofs.Ytcefgcoibppdaaa
