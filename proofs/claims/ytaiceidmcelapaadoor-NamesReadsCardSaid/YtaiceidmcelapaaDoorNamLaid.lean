/-
  From a row's premises (seventeen package variables as the program's text lays them; the world's shape) to the tables; a slice of bytes that came in.
-/
import Derived.Test.YtaiceidmcelapaaDoorNamBytes
import Derived.Test.YtaiceidmcelapaaDoorNamShelf
import Derived.Handed
import Derived.HandedShaped
import Derived.LaidMore
import Derived.Lib.LaidTab
import Derived.MakeChecks
import Derived.ProofKit
import Derived.OpenShut
import Derived.ChangeOld
import Derived.ChangeArms
import Derived.Lib.SmallJoins
import Derived.Stop.Joined
set_option linter.unusedSimpArgs false
set_option linter.unusedVariables false
namespace Go.Proofs.YtaiceidmcelapaaDoor
open Go.ChangeShapes Go.WideShapes Go.ChangeAt Go.RowKit Go.Joins

/-- the wrap that hands on both what a row lists and the world's shape -/
theorem handed_of_change_and_shape {H : Type} {enc : TypeId × Value → H} {a : Assume} {C : Checked} {os : Os} {f : FuncId} {fn : Func} {s : ChangeSpec} {conds : List PathCond} {apart fresh handsOn again : Bool} {X : World → Array Value → Prop}
    (hX : ∀ (w w' : World) (args : Array Value), w.heap = w'.heap → X w args → X w' args)
    (own : ownKnob C.prog.godebug = none) (started : os.Started) (noInit : C.prog.inits.idxOf? f = none) (hfn : C.prog.funcs[f]? = some fn)
    (witness : ∃ (w : World) (tape : Tape) (i : Input), w.os = os ∧ (w.forCall tape i).Shaped C.prog ∧ i.vars = [] ∧ Input.okWide C.prog (w.forCall tape i) .any w.heap.size f i ∧
      ((s.pre enc C.prog fn conds apart (w.forCall tape i).memory i.args ∧ X (w.forCall tape i).memory i.args) ∧ sizedMet enc C.prog fn (OpenSpec.ofChange s) apart (w.forCall tape i).memory i.args) ∧ a.holds C.prog (lone (Frame.enter C.prog f i.args .normal) [] (w.forCall tape i)))
    (contract : ∀ (W : World) (base : Nat) (args : Array Value) (ds gs : List (DataW H)) (before : List MemPlace),
      (∀ (j : Nat) t v, fn.params[j]? = some t → args[j]? = some v → Value.okWide C.prog W .any base t v) →
      DataW.Whole enc C.prog fn.params.toList s.vars apart W args.toList ds gs before → X W args → W.ShapedOpen C.prog →
      Calls C.prog f args W fun e W' => ∃ v, e = .returned v ∧ s.post enc C.prog fn apart fresh handsOn again W args v W') :
    ReturnsInHanded a C os f .any (fun w args => (s.pre enc C.prog fn conds apart w args ∧ X w args) ∧ sizedMet enc C.prog fn (OpenSpec.ofChange s) apart w args) (s.post enc C.prog fn apart fresh handsOn again) := by
  refine returnsInHanded_of_calls own started noInit witness ?_
  intro w tape i _ hsh _ hok hpre _
  obtain ⟨_, _, _, fn', hfn', _, _, _, _, hval⟩ := hok
  have e : fn' = fn := Option.some.inj (hfn'.symm.trans hfn)
  subst e
  obtain ⟨⟨⟨ds, gs, before, hw, hc⟩, hx⟩, hz⟩ := hpre
  have hw' := DataW.Whole.of_heap (w' := w.forCall tape i) (by rfl) hw
  refine (contract (w.forCall tape i) w.heap.size i.args ds gs before hval hw' (hX _ _ _ (by rfl) hx) hsh).mono fun e W' ⟨v, he, hp⟩ => ?_
  subst he
  exact ChangeSpec.post_blind hp

/-- what the variable at a place of the list holds -/
theorem laid_at {P : Program} {w : World} : ∀ (L : List (String × DataW Unit)) (ps : List MemPlace), DataW.LaidVars P w L ps → ∀ (i : Nat) (n : String) (d : DataW Unit), L[i]? = some (n, d) →
    ∃ g t cs fuel p, P.globalNamed n = some g ∧ (P.globals[g]?).map (·.type) = some t ∧ w.var? P n = some cs ∧ DataW.trod (fun _ => ()) P w 0 (fun _ => true) false fuel t cs.toList = some (d, p)
  | [], _, _, i, n, d, h => by simp at h
  | (m, x) :: r, ps, hl, i, n, d, h => by
    obtain ⟨g, t, cs, fuel, p, q, h1, h2, h3, h4, h5, -⟩ := hl
    cases i with
    | zero =>
      simp only [List.getElem?_cons_zero, Option.some.injEq, Prod.mk.injEq] at h
      obtain ⟨rfl, rfl⟩ := h
      exact ⟨g, t, cs, fuel, p, h1, h2, h3, h4⟩
    | succ i => exact laid_at r q h5 i n d (by simpa using h)
/-- texts, as a row lists them -/
def strData (l : List Tx) : DataW Unit := .agg (l.map fun x => .lit (.string x))
theorem cells_of_strs {P : Program} {w : World} {base : Nat} {sp : Nat → Bool} {held : Bool} {fuel : Nat} {t e : TypeId} {n : Nat} {cs : List Value} {l : List Tx} {p : List MemPlace}
    (ht : P.underlying t = some (.array n e)) (he : P.underlying e = some .string) (hce : P.cellsOf e = 1) (hct : P.cellsOf t = n)
    (h : DataW.trod (fun _ => ()) P w base sp held fuel t cs = some (strData l, p)) : cs = l.map fun x => Value.string ⟨x.toArray⟩ := by
  cases fuel with
  | zero => simp [DataW.trod] at h
  | succ fuel =>
    simp only [DataW.trod, ht, hce, hct, Nat.mul_one] at h
    split at h
    · rename_i hl
      obtain ⟨xs, hm, hx⟩ := Option.map_eq_some_iff.1 h
      have hxs : xs.map (·.1) = l.map fun x => (DataW.lit (.string x) : DataW Unit) := by
        have := congrArg Prod.fst hx
        simpa [strData] using this
      have hxl : xs.length = n := by simpa using Lib.mapM_length hm
      have hzl : l.length = n := by
        have := congrArg List.length hxs
        simp at this
        omega
      apply List.ext_getElem?
      intro i
      by_cases hi : i < n
      · obtain ⟨b, hb, hf⟩ := Lib.mapM_at hm i i (by simp [hi])
        obtain ⟨s, hc, rfl, _⟩ := DataW.trod_string he hf
        have h1 : cs[i]? = some (.string s) := by
          have := congrArg (·[0]?) hc
          simpa [List.getElem?_take, List.getElem?_drop] using this
        have h2 : (xs.map (·.1))[i]? = some (DataW.lit (.string s.data.toList) : DataW Unit) := by simp [hb]
        rw [hxs] at h2
        simp only [List.getElem?_map, Option.map_eq_some_iff, DataW.lit.injEq, Lit.string.injEq] at h2
        obtain ⟨x, hx', hxe⟩ := h2
        rw [h1, List.getElem?_map, hx', hxe]
        rfl
      · rw [List.getElem?_eq_none (by omega), List.getElem?_eq_none (by simp; omega)]
    · cases h
/-- where each table stands on the list, its number, its type, how long -/
theorem table_in {w : World} {ps : List MemPlace} (h : DataW.LaidVars Tryd.prog w Rows.namesAllRow.laid ps) (i g n : Nat) (t : TypeId) (l : List Tx) (nm : String)
    (hi : Rows.namesAllRow.laid[i]? = some (nm, strData l)) (hg : Tryd.prog.globalNamed nm = some g) (hty : (Tryd.prog.globals[g]?).map (·.type) = some t)
    (ht : Tryd.prog.underlying t = some (.array n 9)) (hct : Tryd.prog.cellsOf t = n) : ∀ k < l.length, w.cell? ⟨g, k, none⟩ = some (.string ⟨(sg l k).toArray⟩) := by
  obtain ⟨g', t', cs, fuel, p, h1, h2, h3, h4⟩ := laid_at _ _ h i nm _ hi
  obtain rfl := Option.some.inj (hg.symm.trans h1)
  obtain rfl := Option.some.inj (hty.symm.trans h2)
  have e := cells_of_strs ht Tryd.underlying9 (by kernel_rfl) hct h4
  intro k hk
  have hc := World.var?_cell hg h3 k
  rw [hc]
  have : cs[k]? = cs.toList[k]? := by simp
  rw [this, e, List.getElem?_map, List.getElem?_eq_getElem hk]
  simp [sg, List.getD_eq_getElem?_getD, hk]
theorem tabs_of {W : World} (h : laidMetH Tryd.prog Rows.namesAllRow.laid W) (hsh : W.ShapedOpen Tryd.prog) : Tabs W := by
  rw [MakeChecks.laidMetH_plain _ _ _ (by kernel_rfl)] at h
  obtain ⟨ps, h, -⟩ := h
  refine ⟨?_, ?_, ?_⟩
  · intro e he
    simp only [tables, List.mem_cons, List.not_mem_nil, or_false] at he
    obtain rfl | rfl | rfl | rfl | rfl | rfl | rfl | rfl | rfl | rfl | rfl | rfl | rfl | rfl := he
    · exact table_in h 3 0 8 43 t_singles _ rfl (by kernel_rfl) (by kernel_rfl) Tryd.underlying43 (by kernel_rfl)
    · exact table_in h 4 4 4 35 t_wides _ rfl (by kernel_rfl) (by kernel_rfl) Tryd.underlying35 (by kernel_rfl)
    · exact table_in h 5 8 4 35 t_stacked _ rfl (by kernel_rfl) (by kernel_rfl) Tryd.underlying35 (by kernel_rfl)
    · exact table_in h 6 7 8 43 t_conditions _ rfl (by kernel_rfl) (by kernel_rfl) Tryd.underlying43 (by kernel_rfl)
    · exact table_in h 7 1 8 43 t_eightSums _ rfl (by kernel_rfl) (by kernel_rfl) Tryd.underlying43 (by kernel_rfl)
    · exact table_in h 8 2 8 43 t_eightTurns _ rfl (by kernel_rfl) (by kernel_rfl) Tryd.underlying43 (by kernel_rfl)
    · exact table_in h 9 14 4 35 t_starts _ rfl (by kernel_rfl) (by kernel_rfl) Tryd.underlying35 (by kernel_rfl)
    · exact table_in h 10 5 4 35 t_places _ rfl (by kernel_rfl) (by kernel_rfl) Tryd.underlying35 (by kernel_rfl)
    · exact table_in h 11 6 8 43 t_quicks _ rfl (by kernel_rfl) (by kernel_rfl) Tryd.underlying43 (by kernel_rfl)
    · exact table_in h 12 3 4 35 t_bitActs _ rfl (by kernel_rfl) (by kernel_rfl) Tryd.underlying35 (by kernel_rfl)
    · exact table_in h 13 9 4 35 t_modes _ rfl (by kernel_rfl) (by kernel_rfl) Tryd.underlying35 (by kernel_rfl)
    · exact table_in h 14 10 8 43 t_oddMoves _ rfl (by kernel_rfl) (by kernel_rfl) Tryd.underlying43 (by kernel_rfl)
    · exact table_in h 15 12 4 35 t_manyActs _ rfl (by kernel_rfl) (by kernel_rfl) Tryd.underlying35 (by kernel_rfl)
    · exact table_in h 16 11 4 35 t_manySteps _ rfl (by kernel_rfl) (by kernel_rfl) Tryd.underlying35 (by kernel_rfl)
  · obtain ⟨g', t', cs, fuel, p, h1, h2, h3, h4⟩ := laid_at _ _ h 2 powName (Lib.tabData .u64 Lib.pow10Tab) (by kernel_rfl)
    have hg : Tryd.prog.globalNamed powName = some 15 := by kernel_rfl
    have hty : (Tryd.prog.globals[15]?).map (·.type) = some 79 := by kernel_rfl
    obtain rfl := Option.some.inj (hg.symm.trans h1)
    obtain rfl := Option.some.inj (hty.symm.trans h2)
    unfold Lib.TabIs
    rw [h3, ← Lib.cells_of_tab Tryd.underlying79 Tryd.underlying73 (by kernel_rfl) (by kernel_rfl) h4]
  · exact Tryd.laysM145.s1_3 W hsh

/-- a slice of bytes that came in -/
theorem bytes_in {H : Type} {enc : TypeId × Value → H} {W : World} {b0 : Nat} {v : Value} {d : DataW H} {q : List MemPlace} (hv : Value.okWide Tryd.prog W .any b0 24 v) (h : DataW.Trod enc Tryd.prog W 0 (fun _ => true) true 24 v d q) :
    ∃ (bs : List Nat) (a : Option Addr) (c : Nat), v = .slice a bs.length c ∧ bs.length ≤ c ∧ (∀ i, bs.getD i 0 < 256) ∧ Rd W v (by8 bs) := by
  obtain ⟨a, n, cap, rfl⟩ := okWide_slice Tryd.underlying24 hv
  obtain ⟨fuel, hf⟩ := h
  rcases open_ints Tryd.underlying24 Tryd.underlying5 (by kernel_rfl) hf with ⟨hcs, _⟩ | ⟨ad, l, cp, zs, hcs, _, hl, hm, hz, _, hcell, hwf⟩
  · simp [Value.cells] at hcs
    obtain ⟨rfl, rfl, rfl⟩ := hcs
    exact ⟨[], none, 0, rfl, Nat.le_refl _, fun i => by simp, .inl ⟨rfl, rfl⟩⟩
  · simp [Value.cells] at hcs
    obtain ⟨rfl, rfl, rfl⟩ := hcs
    simp at hz
    have hbb : ∀ z ∈ zs, 0 ≤ z ∧ z ≤ 255 := fun z hz => bounds_u8 (hwf z hz)
    refine ⟨(zs.take n).map Int.toNat, some ad, cap, by simp [hz, Nat.min_eq_left hl], by simp [hz, Nat.min_eq_left hl]; exact hl, ?_, ?_⟩
    · intro i
      rw [List.getD_eq_getElem?_getD, List.getElem?_map]
      cases hq : (zs.take n)[i]? with
      | none => simp
      | some z =>
        have hzm : z ∈ zs := List.mem_of_mem_take (List.mem_of_getElem? hq)
        have := hbb z hzm
        show z.toNat < 256
        omega
    · by_cases hn : n = 0
      · subst hn
        exact .inr (.inl ⟨ad, cap, rfl, by simp [by8]⟩)
      · have h0 := hcell 0 (by omega)
        obtain ⟨g, o, s⟩ := ad
        have hs : s = none := by simpa [Addr.add] using World.cell?_spot h0
        subst hs
        have hg : g < W.heap.size := by
          have := World.block_lt_of_cell? W _ h0
          simpa [Addr.add] using this
        refine .inr (.inr ⟨g, o, cap, by simp [by8, hz, Nat.min_eq_left hl], hg, fun j u hu => ?_⟩)
        have ha : (⟨g, o, none⟩ : Addr).add j = ⟨g, o + j, none⟩ := by unfold Addr.add; split <;> simp_all
        simp only [by8, List.getElem?_map, Option.map_eq_some_iff] at hu
        obtain ⟨b, ⟨z, hz1, rfl⟩, rfl⟩ := hu
        have hj : j < zs.length := by
          have := (List.getElem?_eq_some_iff.1 hz1).1
          rw [List.length_take] at this
          omega
        have hi' := hcell j hj
        rw [ha] at hi'
        rw [hi']
        have hz2 : zs[j]? = some z := by
          rw [List.getElem?_take] at hz1
          split at hz1
          · exact hz1
          · cases hz1
        have hb := hbb z (List.mem_of_getElem? hz2)
        rw [List.getD_eq_getElem?_getD, hz2, Option.getD_some]
        show some (Value.int .u8 z) = some (.int .u8 ((z.toNat : Nat) : Int))
        rw [Int.toNat_of_nonneg hb.1]

end Go.Proofs.YtaiceidmcelapaaDoor
