/-
  The document's own Dump: the same bytes in a new block (that may have room behind).
-/
import Derived.Test.YtlnoomganphbeaaBusCore
import Derived.Deep.RegionLaw
namespace Go.Proofs.Ytlnoomganphbeaa
open Go.RowKit

/-- append to a row of the call's own, as one step of a region that draws its order -/
theorem step_append_own {P : Program} {ops : Array Oper} {o : Oper} {a : Act} {w : World} {K : Act → World → Prop} {Q : Exit → Act → World → Prop} {E : Prop} (hgd : o.guard = none) (s x : Operand) (t : TypeId)
    (ho : o.op = .call { callee := .builtin .append, args := #[s, x], argTypes := #[t, t] })
    (base : Nat) (e : TypeId) (i : TypeInfo) (z : Value) (size bytes : Nat) (ht : P.underlying t = some (.slice e)) (hi : P.info? e = some i) (hz : i.zero = some z)
    (hsize : i.size = size) (hby : i.bytes = bytes) (hzs : z.cells.size = size) (hsz : 0 < size)
    (v : Value) (n : Nat) (xs : List Value) (hs : a.eval s = v) (hown : w.ownsRow base e size v n xs)
    (ad : Addr) (m c : Nat) (news : List Value) (hx : a.eval x = .slice (some ad) m c) (hl : news.length = m * size) (hnews : ∀ j u, news[j]? = some u → w.cell? (ad.add j) = some u) (h1 : ∀ u ∈ news, u.oneCell' = true)
    (h63 : n + m ≤ maxLen) (hbytes : (n + m) * bytes ≤ 140737488355328) (hbase : base ≤ w.heap.size)
    (h : ∀ v' w', w'.ownsRow base e size v' (n + m) (xs ++ news) → w.grownBy w' v.ownBlock → (v' = .slice none 0 0 ↔ v = .slice none 0 0 ∧ m = 0) → K (a.put o.dst v') w') :
    if Region.wanted o (yielded ops a.tmps) = true then Oper.wp P o a w K Q else E := by
  have hw : Region.wanted o (yielded ops a.tmps) = true := by simp [Region.wanted, hgd]
  rw [if_pos hw]
  exact wp_append_own w s x t ho base e i z size bytes ht hi hz hsize hby hzs hsz v n xs hs hown ad m c news hx hl hnews h1 h63 hbytes hbase h

theorem Pre.cellsOf {w : World} {g : Nat} {zs : List Int} (h : Pre w g zs) (j : Nat) (u : Value) (hu : (u8s zs)[j]? = some u) : w.cell? ((⟨g, 0, none⟩ : Addr).add j) = some u := by
  have ha : (⟨g, 0, none⟩ : Addr).add j = ⟨g, j, none⟩ := by unfold Addr.add; split <;> simp_all
  have hj : j < zs.length := by
    rcases Nat.lt_or_ge j zs.length with h' | h'
    · exact h'
    · rw [List.getElem?_eq_none (by simpa using h')] at hu; cases hu
  rw [ha, h.at_ j hj, ← hu, u8s_get, List.getElem?_eq_getElem hj, Option.map_some, List.getD_eq_getElem?_getD, List.getElem?_eq_getElem hj]
  rfl
/-- an empty row, just made -/
theorem own_empty (w : World) : (w.alloc (.cells #[] 5)).ownsRow w.heap.size 5 1 (.slice (some ⟨w.heap.size, 0, none⟩) 0 0) 0 [] :=
  (Whole.fresh w 5 []).owns w.heap.size (Nat.le_refl _) 0 (Nat.le_refl _) (by unfold maxLen; simp)

/-- a row of the call's own lies behind its base -/
theorem own_lo {w : World} {base n : Nat} {v : Value} {xs : List Value} (h : w.ownsRow base 5 1 v n xs) (k : Nat) (hk : v.ownBlock = some k) : base ≤ k := by
  obtain ⟨_, ⟨rfl, _⟩ | ⟨g, cap, cur, rfl, hb, _⟩⟩ := h
  · cases hk
  · cases hk; exact hb
theorem RefIn.mapCells {w : World} {r gr ga gp : Nat} {zs rs : List Int} (h : RefIn w r gr ga gp zs rs) (j : Nat) (u : Value) (hu : (u8s (zs.drop 40960))[j]? = some u) : w.cell? ((⟨r, 3, none⟩ : Addr).add j) = some u := by
  obtain ⟨ca, cp, hc⟩ := h.cells
  have ha : (⟨r, 3, none⟩ : Addr).add j = ⟨r, 3 + j, none⟩ := by unfold Addr.add; split <;> simp_all
  have hl := h.len
  rw [u8s_get, List.getElem?_drop] at hu
  have hj : 40960 + j < zs.length := by
    rcases Nat.lt_or_ge (40960 + j) zs.length with h' | h'
    · exact h'
    · rw [List.getElem?_eq_none h'] at hu; cases hu
  have e : u = .int .u8 (zs.getD (40960 + j) 0) := by
    rw [List.getElem?_eq_getElem hj, Option.map_some] at hu
    rw [List.getD_eq_getElem?_getD, List.getElem?_eq_getElem hj]
    exact (Option.some.inj hu).symm
  rw [ha, hc.at_ (3 + j), e]
  rcases (show j = 0 ∨ j = 1 ∨ j = 2 ∨ j = 3 by omega) with rfl | rfl | rfl | rfl <;> rfl
theorem Pre.ofOwned {w : World} {base n : Nat} {v : Value} {zs : List Int} (h : w.ownsRow base 5 1 v n (u8s zs)) (hn : 0 < n) : ∃ k cap, v = .slice (some ⟨k, 0, none⟩) n cap ∧ n ≤ cap ∧ base ≤ k ∧ Pre w k zs := by
  obtain ⟨hl, h0 | ⟨k, cap, cur, hv, hb, hg, h1, h2, h3, h4⟩⟩ := h
  · omega
  · refine ⟨k, cap, hv, h1, hb, cur.toList.drop (n * 1), ?_⟩
    have : u8s zs ++ cur.toList.drop (n * 1) = cur.toList := by rw [← h4, List.take_append_drop]
    show w.heap[k]? = _
    rw [this]
    exact hg

set_option maxRecDepth 100000 in
set_option maxHeartbeats 1600000 in
theorem rdump_any (r gr ga gp : Nat) (zs rs : List Int) (w : World) (h : RefIn w r gr ga gp zs rs) :
    Calls Try.prog 17 #[.pointer (some ⟨r, 0, none⟩)] w fun e w' => ∃ k cap, e = .returned (.slice (some ⟨k, 0, none⟩) 40964 cap) ∧ 40964 ≤ cap ∧ w.heap.size ≤ k ∧ Below w.heap.size w w' ∧ Pre w' k zs := by
  obtain ⟨i0, hi, hz0, hz1, hz2⟩ := info_parts u8_info
  obtain ⟨ca, cp, hc⟩ := h.cells
  have c1 : w.cell? ⟨r, 1, none⟩ = some (.slice (some ⟨ga, 0, none⟩) 8192 ca) := hc.at_ 1
  have c2 : w.cell? ⟨r, 2, none⟩ = some (.slice (some ⟨gp, 0, none⟩) 32768 cp) := hc.at_ 2
  have H := Lib.hid h
  have HI := Lib.hid hi
  have HZ0 := Lib.hid hz0
  have HZ1 := Lib.hid hz1
  have HZ2 := Lib.hid hz2
  have L1 : Hid ((u8s (ramL zs)).length = 8192 * 1) := by show _ = _; rw [u8s_length, ramL_length h.len]
  have L2 : Hid ((u8s (papL zs)).length = 32768 * 1) := by show _ = _; rw [u8s_length, papL_length h.len]
  have hr : r < w.heap.size := hc.inside
  have hlen := Lib.hid h.len
  have B1 : Hid (Below w.heap.size w (w.alloc (.cells #[] 5)).drew) := ((Below.refl _ _).alloc (Nat.le_refl _) _).drew
  have H1 : Hid (RefIn (w.alloc (.cells #[] 5)).drew r gr ga gp zs rs) := h.next B1.out
  have O1 : Hid ((w.alloc (.cells #[] 5)).drew.ownsRow w.heap.size 5 1 (.slice (some ⟨w.heap.size, 0, none⟩) 0 0) 0 []) := own_empty w
  have HA : Hid (([] ++ u8s (ramL zs)) ++ u8s (papL zs) ++ u8s (zs.drop 40960) = u8s zs) := by
    show _ = _
    rw [List.nil_append, ← u8s_append, ← u8s_append]
    congr 1
    unfold ramL papL
    have e2 : zs.take 8192 ++ (zs.drop 8192).take 32768 = zs.take 40960 := (List.take_add (l := zs) (i := 8192) (j := 32768)).symm
    rw [e2, List.take_append_drop]
  clear h hc hi hz0 hz1 hz2
  go_enter Try.func17, Try.ntmps17
  go_wp2_with fail
  go_region_law (first
    | ((refine step_append_own rfl (.tmp 4) (.tmp 8) 29 rfl w.heap.size 5 i0 (.int .u8 0) 1 1 Try.underlying29 HI.out HZ0.out HZ1.out HZ2.out rfl (by decide) _ 0 [] (by simp [Act.eval]) O1.out ⟨ga, 0, none⟩ 8192 ca (u8s (ramL zs)) (by simp [Act.eval]) L1.out H1.out.ram.cellsOf (u8s_one _) (by unfold maxLen; omega) (by omega) B1.out.size ?_); intro v9 w9 ho9 hg9 hn9; have B9 : Hid (Below w.heap.size w w9) := B1.out.grown hg9 B1.out.size (by intro k hk; cases hk; exact Nat.le_refl _); have H9 : Hid (RefIn w9 r gr ga gp zs rs) := H.out.next B9.out; have O9 := Lib.hid ho9; have d2 : w9.cell? ⟨r, 2, none⟩ = some (.slice (some ⟨gp, 0, none⟩) 32768 cp) := (B9.out.cell (p := ⟨r, 2, none⟩) hr).trans c2; clear ho9 hg9 hn9)
    | ((refine step_append_own rfl (.tmp 9) (.tmp 13) 29 rfl w.heap.size 5 i0 (.int .u8 0) 1 1 Try.underlying29 HI.out HZ0.out HZ1.out HZ2.out rfl (by decide) v9 8192 _ (by simp [Act.eval]) O9.out ⟨gp, 0, none⟩ 32768 cp (u8s (papL zs)) (by simp [Act.eval]) L2.out H9.out.pap.cellsOf (u8s_one _) (by unfold maxLen; omega) (by omega) B9.out.size ?_); intro v14 w14 ho14 hg14 hn14; have B14 : Hid (Below w.heap.size w w14) := B9.out.grown hg14 B9.out.size (by intro k hk; exact own_lo O9.out k hk); have H14 : Hid (RefIn w14 r gr ga gp zs rs) := H.out.next B14.out; have O14 := Lib.hid ho14; clear ho14 hg14 hn14))
  all_goals
    have L3 : Hid ((u8s (zs.drop 40960)).length = 4 * 1) := by (show _ = _; rw [u8s_length, List.length_drop, hlen.out])
    clear H9 O9 B9 d2
    go_wp2_with ((with_reducible refine wpList_append_own _ rfl (.tmp 15) (.tmp 19) 29 rfl w.heap.size 5 i0 (.int .u8 0) 1 1 Try.underlying29 HI.out HZ0.out HZ1.out HZ2.out rfl (by decide) v14 40960 _ rfl O14.out ⟨r, 3, none⟩ 4 4 (u8s (zs.drop 40960)) rfl L3.out H14.out.mapCells (u8s_one _) (by unfold maxLen; omega) (by omega) B14.out.size ?_); intro v20 w20 ho20 hg20 hn20; have B20 : Hid (Below w.heap.size w w20) := B14.out.grown hg20 B14.out.size (by intro k hk; exact own_lo O14.out k hk); have O20 := Lib.hid ho20; clear ho20 hg20 hn20)
    go_ret
    have ho := O20.out
    rw [HA.out] at ho
    obtain ⟨k, cap, rfl, h1, h2, h3⟩ := Pre.ofOwned ho (by omega)
    exact ⟨k, cap, rfl, h1, h2, B20.out, h3⟩

end Go.Proofs.Ytlnoomganphbeaa
