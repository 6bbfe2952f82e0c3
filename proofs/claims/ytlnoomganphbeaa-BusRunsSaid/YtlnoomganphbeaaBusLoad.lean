/-
  Package bus's Load: of so many bytes all is as they say; of others nothing is done, and the error is told.
-/
import Derived.Test.YtlnoomganphbeaaBusDump
import Derived.StillTailTactics
import Derived.Deep.RegionLaw
namespace Go.Proofs.Ytlnoomganphbeaa
open Go.RowKit

theorem splice_u8s (p : Value) (zs cs : List Int) (o : Nat) : splice (p :: u8s zs) (1 + o) (u8s cs) = p :: u8s (splice zs o cs) := by
  unfold splice
  rw [u8s_length, show 1 + o + cs.length = (o + cs.length) + 1 by omega, show 1 + o = o + 1 by omega, List.take_succ_cons, List.drop_succ_cons]
  simp [u8s, List.map_take, List.map_drop]
theorem splice_all (zs ds : List Int) (hz : zs.length = 40964) (hd : ds.length = 40964) :
    splice (splice (splice zs 0 (ds.take 8192)) 8192 ((ds.drop 8192).take 32768)) 40960 (ds.drop 40960) = ds := by
  apply List.ext_getElem?
  intro i
  have e1 : (splice zs 0 (ds.take 8192)).length = 40964 := by rw [length_splice _ _ _ (by simp; omega), hz]
  have e2 : (splice (splice zs 0 (ds.take 8192)) 8192 ((ds.drop 8192).take 32768)).length = 40964 := by rw [length_splice _ _ _ (by simp; omega), e1]
  have hs (L : List Int) (o : Nat) (cs : List Int) (hL : L.length = 40964) (hf : o + cs.length ≤ 40964) (j : Nat) : (splice L o cs)[j]? = if j < o then L[j]? else if j < o + cs.length then cs[j - o]? else L[j]? := by
    unfold splice
    by_cases h1 : j < o
    · rw [if_pos h1, List.getElem?_append_left (by simp; omega), List.getElem?_take, if_pos h1]
    · rw [if_neg h1, List.getElem?_append_right (by simp; omega), List.length_take, Nat.min_eq_left (by omega)]
      by_cases h2 : j < o + cs.length
      · rw [if_pos h2, List.getElem?_append_left (by omega)]
      · rw [if_neg h2, List.getElem?_append_right (by omega), List.getElem?_drop]
        congr 1; omega
  rw [hs _ _ _ e2 (by simp; omega), hs _ _ _ e1 (by simp; omega), hs _ _ _ hz (by simp; omega)]
  simp only [List.length_take, List.length_drop, List.getElem?_take, List.getElem?_drop, hd]
  by_cases h1 : i < 8192
  · simp [h1, show i < 40960 by omega]
  · by_cases h2 : i < 40960
    · simp [h1, h2, show i - 8192 < 32768 by omega, show 8192 + (i - 8192) = i by omega]
    · by_cases h3 : i < 40964
      · simp [h2, h3, show 40960 + (i - 40960) = i by omega]
      · simp [h2, h3]
        rw [List.getElem?_eq_none (by omega), List.getElem?_eq_none (by omega)]
        simp

theorem grown_draw' {a w : World} {row : Option Nat} (h : a.grownBy w row) : a.grownBy w.drew row := ⟨h.os, h.tape, h.output, h.size, h.block⟩
theorem grown_trans {a b c : World} {g : Nat} (h1 : a.grownBy b (some g)) (h2 : b.grownBy c (some g)) : a.grownBy c (some g) :=
  ⟨h2.os.trans h1.os, h2.tape.trans h1.tape, h2.output.trans h1.output, Nat.le_trans h1.size h2.size, fun i hi hne => (h2.block i (Nat.lt_of_lt_of_le hi h1.size) hne).trans (h1.block i hi hne)⟩
/-- copy_into, its number given -/
theorem copy_some {P : Program} {w : World} {ops : Array Oper} {rest : List Oper} {o : Oper} {a : Act} {Q : Exit → Act → World → Prop} (hgd : o.guard = none) (d s : Operand) (dT sT : TypeId)
    (ho : o.op = .call { callee := .builtin .copy, args := #[d, s], argTypes := #[dT, sT] }) (elem : TypeId) (hu : P.underlying dT = some (.slice elem)) (hsz : (P.info? elem).map (·.size) = some 1)
    (dLen dCap sLen sCap : Nat) (m g off : Nat) (ad : Addr) (hd : a.eval d = .slice (some ⟨g, off, none⟩) dLen dCap) (hs : a.eval s = .slice (some ad) sLen sCap)
    (cur : List Value) (t : TypeId) (hg : Whole w g t cur) (cs : List Value) (hm : cs.length = m) (hn : m = Nat.min sLen dLen)
    (hc : ∀ j v, cs[j]? = some v → w.cell? (ad.add j) = some v) (hfit : off + m ≤ cur.length) (h1 : ∀ v ∈ cs, v.oneCell' = true)
    (h : ∀ w', Hid (Whole w' g t (splice cur off cs)) → w.grownBy w' (some g) → wpList P ops Q rest (a.put o.dst (goInt m)) w') :
    wpList P ops Q (o :: rest) a w := by
  subst hm
  exact copy_into hgd d s dT sT ho elem hu hsz _ _ dLen dCap sLen sCap hd hs g off cur t hg cs hn (fun _ => ⟨rfl, ad, rfl, hc⟩) hfit h1 h

/-- the same as one step of a region that draws its order -/
theorem step_copy_some {P : Program} {ops : Array Oper} {o : Oper} {a : Act} {w : World} {K : Act → World → Prop} {Q : Exit → Act → World → Prop} {E : Prop} (hgd : o.guard = none) (d s : Operand) (dT sT : TypeId)
    (ho : o.op = .call { callee := .builtin .copy, args := #[d, s], argTypes := #[dT, sT] }) (elem : TypeId) (hu : P.underlying dT = some (.slice elem)) (hsz : (P.info? elem).map (·.size) = some 1)
    (dLen dCap sLen sCap : Nat) (m g off : Nat) (ad : Addr) (hd : a.eval d = .slice (some ⟨g, off, none⟩) dLen dCap) (hs : a.eval s = .slice (some ad) sLen sCap)
    (cur : List Value) (t : TypeId) (hg : Whole w g t cur) (cs : List Value) (hm : cs.length = m) (hn : m = Nat.min sLen dLen) (_hp : 0 < m)
    (hc : ∀ j v, cs[j]? = some v → w.cell? (ad.add j) = some v) (hfit : off + m ≤ cur.length) (h1 : ∀ v ∈ cs, v.oneCell' = true)
    (h : ∀ w', Hid (Whole w' g t (splice cur off cs)) → w.grownBy w' (some g) → K (a.put o.dst (goInt m)) w') :
    if Region.wanted o (yielded ops a.tmps) = true then Oper.wp P o a w K Q else E := by
  have hw : Region.wanted o (yielded ops a.tmps) = true := by simp [Region.wanted, hgd]
  rw [if_pos hw]
  subst hm
  have hrun := run_copy_row (P := P) w dT sT o.type elem g off dLen dCap ad sLen sCap cur.toArray t cs hu hsz hg hn hc (by simpa using hfit) h1
  unfold Oper.wp
  simp [execOp, ho, resolve, invoke, builtin, hd, hs, hrun, Result.andThen]
  exact h _ (show _ = _ by simpa [splice] using setRow_heap w g _ _ t _ hg) (setRow_grown w g _)

set_option maxRecDepth 100000 in
theorem load_bad (b : Nat) (a : Option Addr) (n cap : Nat) (hn : ¬ (n : Int) = 40964) (w : World) :
    Calls Try.prog 12 #[.pointer (some ⟨b, 0, none⟩), .slice a n cap] w fun e w' => e = .returned (.int .i64 21) ∧ w = w' := by
  go_enter Try.func12, Try.ntmps12
  go_wp2
  go_ret
  exact ⟨rfl, rfl⟩

theorem Bytes.cellsFrom {w : World} {B n : Nat} {g o : Nat} {ds : List Int} (h : ∀ i, i < n → w.cell? ⟨g, o + i, none⟩ = some (.int .u8 (ds.getD i 0))) (hl : ds.length = n) (_hB : g < B) (k : Nat) (m : Nat) (j : Nat) (v : Value)
    (hv : (u8s ((ds.drop k).take m))[j]? = some v) : w.cell? ((⟨g, o + k, none⟩ : Addr).add j) = some v := by
  have ha : (⟨g, o + k, none⟩ : Addr).add j = ⟨g, o + (k + j), none⟩ := by unfold Addr.add; split <;> simp_all <;> omega
  rw [u8s_get, List.getElem?_take] at hv
  split at hv
  · rw [List.getElem?_drop] at hv
    have hk : k + j < n := by
      rcases Nat.lt_or_ge (k + j) ds.length with h1 | h1
      · omega
      · rw [List.getElem?_eq_none h1] at hv; simp at hv
    rw [ha, h _ hk, List.getD_eq_getElem?_getD]
    rw [List.getElem?_eq_getElem (by omega)] at hv ⊢
    simpa using hv
  · simp at hv

set_option maxRecDepth 100000 in
set_option maxHeartbeats 400000 in
theorem load_good (b g : Nat) (zs : List Int) (a : Option Addr) (cap : Nat) (ds : List Int) (w : World) (h : BusAt w b g zs) (hd : Bytes w w.heap.size a 40964 ds) (ho : Oct ds) (hcap : 40964 ≤ cap) (hne : ∀ x, a = some x → x.block ≠ b) :
    Calls Try.prog 12 #[.pointer (some ⟨b, 0, none⟩), .slice a 40964 cap] w fun e w' => e = .returned (.int .i64 0) ∧ BusAt w' b g ds ∧ w.grownBy w' (some b) := by
  obtain ⟨hdl, hdc⟩ := hd
  obtain ⟨gd, od, rfl, hgd, hcells⟩ := hdc (by omega)
  have hgb : gd ≠ b := hne _ rfl
  have hzl := h.2.1
  have S1 : Hid (∀ j v, (u8s (ds.take 8192))[j]? = some v → w.cell? ((⟨gd, od, none⟩ : Addr).add j) = some v) := fun j v hv => by
    have := Bytes.cellsFrom (B := w.heap.size) hcells hdl hgd 0 8192 j v (by rwa [List.drop_zero])
    rwa [Nat.add_zero] at this
  have HC := Lib.hid hcells
  have P1 := Lib.hid h.1
  have L1 : Hid ((u8s (ds.take 8192)).length = 8192) := by show _ = _; simp; omega
  have L2 : Hid ((u8s ((ds.drop 8192).take 32768)).length = 32768) := by show _ = _; simp; omega
  have L3 : Hid ((u8s (ds.drop 40960)).length = 4) := by show _ = _; simp; omega
  have hk : ∀ (w' : World), w.grownBy w' (some b) → ∀ i, i < 40964 → w'.cell? ⟨gd, od + i, none⟩ = some (.int .u8 (ds.getD i 0)) := fun w' hg i hi => by
    rw [← hcells i hi]
    unfold World.cell?
    rw [hg.block gd hgd (by intro e; cases e; exact hgb rfl)]
  have HK := Lib.hid hk
  have HDL := Lib.hid hdl
  have HZL := Lib.hid hzl
  have hc1 : ¬ cap = 8192 := by omega
  have hc2 : ¬ cap = 40960 := by omega
  clear h hdl hcells hk hzl hdc hne
  go_enter Try.func12, Try.ntmps12
  go_wp2_with ((with_reducible refine copy_some rfl (.tmp 12) (.tmp 13) 29 29 rfl 5 Try.underlying29 u8_size 8192 8192 40964 cap 8192 b 1 ⟨gd, od, none⟩ rfl rfl (.pointer (some ⟨g, 0, none⟩) :: u8s zs) 61 P1.out (u8s (ds.take 8192)) L1.out rfl S1.out (by rw [List.length_cons, u8s_length, HZL.out]; omega) (u8s_one _) ?_); intro w2 HG2 hg2)
  have P2 : Hid (Whole w2.drew b 61 (.pointer (some ⟨g, 0, none⟩) :: u8s (splice zs 0 (ds.take 8192)))) := by
    have := HG2.out
    rw [show (1 : Nat) = 1 + 0 from rfl, splice_u8s] at this
    exact this
  have G2 := Lib.hid (grown_draw' hg2)
  obtain ⟨z2, hz2⟩ : ∃ z2, z2 = splice zs 0 (ds.take 8192) := ⟨_, rfl⟩
  rw [← hz2] at P2
  have HZ2 := Lib.hid hz2
  have Z2L : Hid (z2.length = 40964) := by show _ = _; rw [hz2, length_splice _ _ _ (by simp; have := HZL.out; have := HDL.out; omega), HZL.out]
  clear HG2 hg2 hz2
  have S2 : Hid (∀ j v, (u8s ((ds.drop 8192).take 32768))[j]? = some v → w2.drew.cell? ((⟨gd, od + 8192, none⟩ : Addr).add j) = some v) :=
    Bytes.cellsFrom (B := w.heap.size) (HK.out _ G2.out) HDL.out hgd 8192 32768
  have N2 : Hid ((32768 : Nat) = Nat.min 32772 32768) := rfl
  have M2 : Hid (8193 + 32768 ≤ (Value.pointer (some ⟨g, 0, none⟩) :: u8s z2).length) := by show _ ≤ _; rw [List.length_cons, u8s_length, Z2L.out]; omega
  have hsum : IntKind.i64.wrap 40960 = 40960 := by rw [IntKind.wrap_i64]; rfl
  go_region_law ((refine step_copy_some (hgd := ?_) (d := .tmp 19) (s := .tmp 22) (dT := 29) (sT := 29) (ho := ?_) (elem := 5) (hu := Try.underlying29) (hsz := u8_size) (dLen := 32768) (dCap := 32768) (sLen := 32772) (sCap := cap - 8192) (m := 32768) (g := b) (off := 8193) (ad := ⟨gd, od + 8192, none⟩) (hd := ?_) (hs := ?_) (cur := .pointer (some ⟨g, 0, none⟩) :: u8s z2) (t := 61) (hg := ?_) (cs := u8s ((ds.drop 8192).take 32768)) (hm := L2.out) (hn := ?_) (_hp := ?_) (hc := ?_) (hfit := ?_) (h1 := u8s_one _) (h := ?_)); (case refine_1 => rfl); (case refine_2 => rfl); (case refine_3 => simp [Act.eval, Act.put]); (case refine_4 => simp [Act.eval, Act.put]); (case refine_5 => exact P2.out); (case refine_6 => exact N2.out); (case refine_7 => omega); (case refine_8 => exact S2.out); (case refine_9 => exact M2.out); intro w3 HG3 hg3)
  have P3 : Hid (Whole w3.drew b 61 (.pointer (some ⟨g, 0, none⟩) :: u8s (splice z2 8192 ((ds.drop 8192).take 32768)))) := by
    have := HG3.out
    rw [show (8193 : Nat) = 1 + 8192 from rfl, splice_u8s] at this
    exact this
  have G3 := Lib.hid (grown_trans G2.out (grown_draw' hg3))
  obtain ⟨z3, hz3⟩ : ∃ z3, z3 = splice z2 8192 ((ds.drop 8192).take 32768) := ⟨_, rfl⟩
  rw [← hz3] at P3
  have HZ3 := Lib.hid hz3
  have Z3L : Hid (z3.length = 40964) := by show _ = _; rw [hz3, length_splice _ _ _ (by simp; have := Z2L.out; have := HDL.out; omega), Z2L.out]
  clear HG3 hg3 hz3 S2 P2
  have S3 : Hid (∀ j v, (u8s (ds.drop 40960))[j]? = some v → w3.drew.cell? ((⟨gd, od + 40960, none⟩ : Addr).add j) = some v) := fun j v hv =>
    Bytes.cellsFrom (B := w.heap.size) (HK.out _ G3.out) HDL.out hgd 40960 4 j v (by rwa [List.take_of_length_le (by simp; have := HDL.out; omega)])
  have M3 : Hid (40961 + 4 ≤ (Value.pointer (some ⟨g, 0, none⟩) :: u8s z3).length) := by show _ ≤ _; rw [List.length_cons, u8s_length, Z3L.out]; omega
  have N3 : Hid ((4 : Nat) = Nat.min 4 4) := rfl
  go_wp2_with fail
  clear hsum
  go_still_tail 7, (by kernel_rfl)
  change wpList _ _ _ _ _ w3.drew
  go_wp2_with ((with_reducible refine copy_some rfl (.tmp 28) (.tmp 31) 29 29 rfl 5 Try.underlying29 u8_size 4 4 4 (cap - 40960) 4 b 40961 ⟨gd, od + 40960, none⟩ rfl rfl (.pointer (some ⟨g, 0, none⟩) :: u8s z3) 61 P3.out (u8s (ds.drop 40960)) L3.out N3.out S3.out M3.out (u8s_one _) ?_); intro w4 HG4 hg4)
  go_ret
  refine ⟨rfl, ⟨?_, HDL.out, ho⟩, grown_trans G3.out hg4⟩
  have := HG4.out
  rw [show (40961 : Nat) = 1 + 40960 from rfl, splice_u8s, HZ3.out, HZ2.out, splice_all zs ds HZL.out HDL.out] at this
  exact this

end Go.Proofs.Ytlnoomganphbeaa
