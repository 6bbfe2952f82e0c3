/-
  A slice, wherever it lies, that reads as these values; append onto a slice of the call's own; the bytes of package names, each by one contract.
-/
import Derived.Test.YtaiceidmcelapaaDoorNamPat
import Derived.Test.YtaiceidmcelapaaDoorRowOwn
import Derived.Laws.BytesArg
set_option linter.unusedSimpArgs false
set_option linter.unusedVariables false
namespace Go.Proofs.YtaiceidmcelapaaDoor
open Go.RowKit

/-- the slice v reads as ys -/
def Rd (w : World) (v : Value) (ys : List Value) : Prop :=
  (v = .slice none 0 0 ∧ ys = []) ∨ (∃ ad cap, v = .slice (some ad) 0 cap ∧ ys = []) ∨ ∃ g o cap, v = .slice (some ⟨g, o, none⟩) ys.length cap ∧ g < w.heap.size ∧ ∀ j u, ys[j]? = some u → w.cell? ⟨g, o + j, none⟩ = some u
section
variable {P : Program} {W0 w w' : World} {l R : List (Nat × TypeId × List Value)} {t : TypeId} {v u : Value} {xs ys : List Value}
theorem Rd.under (h : Rd w v ys) (hb : Below w.heap.size w w') : Rd w' v ys := by
  rcases h with h | h | ⟨g, o, cap, hv, hg, hc⟩
  · exact .inl h
  · exact .inr (.inl h)
  · exact .inr (.inr ⟨g, o, cap, hv, Nat.lt_of_lt_of_le hg hb.size, fun j u hu => (hb.cell (p := ⟨g, o + j, none⟩) hg).trans (hc j u hu)⟩)
theorem Rd.own (h : Hid (Rd W0 v ys)) (HM : Hid (Own W0 w l)) : Rd w v ys := h.out.under HM.out.below
theorem Rd.ofRow (h : RowIs t R v xs) (hR : ∀ e ∈ R, Whole w e.1 e.2.1 e.2.2) : Rd w v xs := by
  rcases h with ⟨-, rfl, rfl⟩ | ⟨g, cap, cur, rfl, rfl, h1, h2, h3, h4⟩
  · exact .inl ⟨rfl, rfl⟩
  · have hw := hR (g, t, cur) (by simp)
    refine .inr (.inr ⟨g, 0, cap, rfl, hw.inside, fun j u hu => ?_⟩)
    rw [Nat.zero_add, hw.at_ j]
    rw [← h4, List.getElem?_take] at hu
    split at hu
    · exact hu
    · cases hu
theorem Rd.ofWhole {g n : Nat} {cs : List Value} (h : Whole w g t cs) (hn : n = cs.length) : Rd w (.slice (some ⟨g, 0, none⟩) n n) cs := by
  subst hn
  exact .inr (.inr ⟨g, 0, cs.length, rfl, h.inside, fun j u hu => by rw [Nat.zero_add, h.at_ j, hu]⟩)
theorem RowIs.made {g : Nat} : RowIs t [(g, t, [])] (.slice (some ⟨g, 0, none⟩) 0 0) [] := .inr ⟨g, 0, [], rfl, rfl, Nat.le_refl _, by unfold maxLen; omega, rfl, rfl⟩
theorem rowIs_of_owns' {B n : Nat} (h : w.ownsRow B t 1 v n xs) : ∃ R, RowIs t R v xs ∧ ∀ e ∈ R, B ≤ e.1 ∧ Whole w e.1 e.2.1 e.2.2 := by
  have h' := h
  obtain ⟨hl, ⟨hv, h0⟩ | ⟨g, cap, cur, hv, hb, hw, h1, h2, h3, h4⟩⟩ := h
  · subst h0
    have hx : xs = [] := by simpa using hl
    subst hx hv
    exact ⟨[], .nil t, by simp⟩
  · have hl' : xs.length = n := by simpa using hl
    subst hl'
    refine ⟨[(g, t, cur.toList)], .inr ⟨g, cap, cur.toList, rfl, hv, h1, h2, by simpa using h3, by simpa using h4⟩, ?_⟩
    intro e he
    obtain rfl := List.mem_singleton.1 he
    exact ⟨hb, hw⟩
theorem Own.sub (h : Own W0 w l) (hs : R.Sublist l) : Own W0 w R := ⟨h.below, fun e he => h.whole e (hs.subset he), h.apart.sublist hs⟩
/-- append onto a slice of the call's own: what is left of the call's blocks is the new slice's -/
theorem own_app {ops : Array Oper} {rest : List Oper} {o : Oper} {a : Act} {Q : Exit → Act → World → Prop} {s y : Operand} {tS tE : TypeId} {i : TypeInfo} {z : Value} {bytes : Nat}
    (ht : P.underlying tS = some (.slice tE)) (hi : P.info? tE = some i) (hz : i.zero = some z) (hsz : i.size = 1) (hby : i.bytes = bytes) (hzs : z.cells.size = 1) (hbb : bytes ≤ 64)
    (HM : Hid (Own W0 w l)) (HR : Hid (RowIs tE R v xs)) (hsub : R.Sublist l) (ho : o.op = .call { callee := .builtin .append, args := #[s, y], argTypes := #[tS, tS] }) (hs : a.eval s = v) (hy : a.eval y = u) (hu : Rd w u ys)
    (h1 : ∀ u ∈ ys, u.oneCell' = true) (hl : xs.length + ys.length ≤ 100000) (hw : Region.wanted o (yielded ops a.tmps) = true)
    (h : ∀ v' w' R', Hid (RowIs tE R' v' (xs ++ ys)) → Hid (Own W0 w' R') → wpList P ops Q rest (a.put o.dst v') w') : wpList P ops Q (o :: rest) a w := by
  have hO : Own W0 w ([] ++ ([] ++ R)) := HM.out.sub hsub
  have hrow := HR.out.owns (w := w) (B := W0.heap.size) (fun e he => hO.whole e (by simpa using he))
  refine wpList_wanted hw fun K hK => ?_
  rcases hu with ⟨hv, hys⟩ | ⟨ad, cap, hv, hys⟩ | ⟨g, off, cap, hv, hg, hc⟩
  · subst hys
    rw [hv] at hy
    have hrun := run_append_owned_none (P := P) (w := w) W0.heap.size tS o.type tE i 1 ht hi v _ _ hrow
    have hk := hK _ _ (h v w R (by rw [List.append_nil]; exact HR) (Lib.hid (by simpa using hO)))
    unfold Oper.wp
    simp only [execOp, ho, resolve, invoke, builtin, hs, hy, hrun, Result.andThen, Sem.run_bind, Sem.run_pure, List.map_toArray, List.map_cons, List.map_nil]
    exact hk
  · subst hys
    rw [hv] at hy
    refine wp_append_own w s y tS ho W0.heap.size tE i z 1 bytes ht hi hz hsz hby hzs (by decide) v _ _ hs hrow ad 0 cap [] hy rfl (fun j x hj => by simp at hj) h1 (by unfold maxLen; simp only [List.length_nil] at hl; omega) ?_ HM.out.below.size ?_
    · have : (xs.length + 0) * bytes ≤ 100000 * 64 := Nat.mul_le_mul hl hbb
      omega
    · intro v' w' ho' hg' _
      obtain ⟨R', hR', hW⟩ := rowIs_of_owns' ho'
      refine hK _ _ (h v' w' R' (Lib.hid hR') (Lib.hid ?_))
      have := hO.append (t := tE) (by simp) HR.out hg' hR' hW
      simpa using this
  · rw [hv] at hy
    refine wp_append_own w s y tS ho W0.heap.size tE i z 1 bytes ht hi hz hsz hby hzs (by decide) v _ _ hs hrow ⟨g, off, none⟩ ys.length cap ys hy (by simp) ?_ h1 (by unfold maxLen; omega) ?_ HM.out.below.size ?_
    · intro j x hj
      have ha : (⟨g, off, none⟩ : Addr).add j = ⟨g, off + j, none⟩ := by unfold Addr.add; split <;> simp_all
      rw [ha]
      exact hc j x hj
    · have : (xs.length + ys.length) * bytes ≤ 100000 * 64 := Nat.mul_le_mul hl hbb
      omega
    · intro v' w' ho' hg' _
      obtain ⟨R', hR', hW⟩ := rowIs_of_owns' ho'
      refine hK _ _ (h v' w' R' (Lib.hid hR') (Lib.hid ?_))
      have := hO.append (t := tE) (by simp) HR.out hg' hR' hW
      simpa using this
end
/-- bytes, as cells -/
def by8 (bs : List Nat) : List Value := bs.map fun b : Nat => Value.int .u8 (b : Int)
@[simp] theorem by8_length (bs : List Nat) : (by8 bs).length = bs.length := by simp [by8]
theorem by8_append (a b : List Nat) : by8 (a ++ b) = by8 a ++ by8 b := by simp [by8]
theorem by8_one (bs : List Nat) : ∀ u ∈ by8 bs, u.oneCell' = true := by
  intro u hu
  obtain ⟨b, -, rfl⟩ := List.mem_map.1 hu
  rfl
theorem by8_get (bs : List Nat) (i : Nat) (hi : i < bs.length) : (by8 bs)[i]? = some (.int .u8 ((bs.getD i 0 : Nat) : Int)) := by
  simp [by8, List.getD_eq_getElem?_getD, hi]

set_option maxRecDepth 100000 in
set_option maxHeartbeats 1600000 in
theorem at_at (v : Value) (bs : List Nat) (i : Nat) (hi : i < 100000) (hl : bs.length < 100000) (w : World) (hR : Rd w v (by8 bs)) : Calls Tryd.prog 14 #[v, .int .i64 (i : Int)] w fun e w' => e = .returned (.int .u8 ((bs.getD i 0 : Nat) : Int)) ∧ Below w.heap.size w w' := by
  rcases hR with ⟨rfl, hb⟩ | ⟨ad, cap, rfl, hb⟩ | ⟨g, o, cap, rfl, hg, hc⟩
  · have hb' : bs = [] := by simpa [by8] using hb
    subst hb'
    clear hb
    have HM := Lib.hid (Own.start w)
    go_enter Tryd.func14, Tryd.ntmps14
    go_wp2
    go_ret
    exact ⟨rfl, Own.fin HM⟩
  · have hb' : bs = [] := by simpa [by8] using hb
    subst hb'
    clear hb
    have HM := Lib.hid (Own.start w)
    go_enter Tryd.func14, Tryd.ntmps14
    go_wp2
    go_ret
    exact ⟨rfl, Own.fin HM⟩
  · rw [by8_length]
    by_cases h : i < bs.length
    · have c := hc i _ (by8_get bs i h)
      obtain ⟨n, hn⟩ : ∃ n, n = bs.length := ⟨_, rfl⟩
      obtain ⟨b, hb⟩ : ∃ b, b = bs.getD i 0 := ⟨_, rfl⟩
      rw [← hb] at c ⊢
      rw [← hn]
      have hin : (i : Int) < (n : Int) := by omega
      have HM := Lib.hid (Own.start w)
      clear hc hn hb
      go_enter Tryd.func14, Tryd.ntmps14
      go_wp2
      go_ret
      exact ⟨rfl, Own.fin HM⟩
    · have e : bs.getD i 0 = 0 := by simp [List.getD_eq_getElem?_getD, List.getElem?_eq_none (Nat.le_of_not_lt h)]
      rw [e]
      obtain ⟨n, hn⟩ : ∃ n, n = bs.length := ⟨_, rfl⟩
      rw [← hn]
      have hin : (n : Int) ≤ (i : Int) := by omega
      have HM := Lib.hid (Own.start w)
      clear hc hn e
      go_enter Tryd.func14, Tryd.ntmps14
      go_wp2
      go_ret
      exact ⟨rfl, Own.fin HM⟩

end Go.Proofs.YtaiceidmcelapaaDoor
