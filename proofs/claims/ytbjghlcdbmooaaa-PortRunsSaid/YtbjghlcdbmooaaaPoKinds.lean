/-
  A port's own block, of the program and of the document: its cells, what is read and written of it.
-/
import Derived.Test.YtbjghlcdbmooaaaPoSpec
namespace Go.Proofs.Ytbjghlcdbmooaaa
open Go.RowKit

theorem oneU16 : One Try.prog 54 := ⟨⟨_, Try.underlying54, rfl⟩, by kernel_rfl⟩
theorem oneBs : One Try.prog 25 := ⟨⟨_, Try.underlying25, rfl⟩, by kernel_rfl⟩
theorem agg11 : Agg Try.prog 30 11 := ⟨⟨_, Try.underlying30, rfl⟩, by kernel_rfl⟩
theorem zero11 : Zero Try.prog 30 (n8 (List.replicate 11 0)) := ⟨.agg (n8 (List.replicate 11 0)).toArray, fun _ => by kernel_rfl, rfl⟩
namespace Pt
abbrev Sz (s : Pt) : Prop := s.vr.length = 16384 ∧ s.cr.length = 32 ∧ s.rg.length = 11
def tail (s : Pt) : List Value := [.int .u16 (s.ad : Int), .int .u8 (s.co : Int), .int .u8 (s.lo : Int), .bool s.se, .int .u8 (s.bu : Int)]
def cells (s : Pt) : List Value := n8 s.vr ++ (n8 s.cr ++ (n8 s.rg ++ s.tail))
def rcells (s : Pt) (v c g : Nat) : List Value := [.slice (some ⟨v, 0, none⟩) 16384 16384, .slice (some ⟨c, 0, none⟩) 32 32, .slice (some ⟨g, 0, none⟩) 11 11, .int .i64 (s.ad : Int), .int .i64 (s.co : Int), .int .i64 (s.lo : Int), .int .i64 (s.bu : Int), .bool s.se]
section
variable {s : Pt} {b c g : Nat}
theorem Ok.sz (h : s.Ok) : s.Sz := ⟨h.v, h.c, h.g⟩
theorem cells_length (h : s.Sz) : s.cells.length = 16432 := by simp [cells, tail, h.1, h.2.1, h.2.2]
theorem at_tail (h : s.Sz) (i : Nat) : s.cells[16427 + i]? = s.tail[i]? := by
  unfold cells
  rw [List.getElem?_append_right (by simp [h.1] <;> omega), List.getElem?_append_right (by simp [h.1, h.2.1] <;> omega), List.getElem?_append_right (by simp [h.1, h.2.1, h.2.2] <;> omega)]
  congr 1
  simp [h.1, h.2.1, h.2.2] <;> omega
theorem at_ad (h : s.Sz) : s.cells[16427]? = some (.int .u16 (s.ad : Int)) := at_tail h 0
theorem at_co (h : s.Sz) : s.cells[16428]? = some (.int .u8 (s.co : Int)) := at_tail h 1
theorem at_lo (h : s.Sz) : s.cells[16429]? = some (.int .u8 (s.lo : Int)) := at_tail h 2
theorem at_se (h : s.Sz) : s.cells[16430]? = some (.bool s.se) := at_tail h 3
theorem at_bu (h : s.Sz) : s.cells[16431]? = some (.int .u8 (s.bu : Int)) := at_tail h 4
theorem at_vr (h : s.Sz) {i : Nat} (hi : i < 16384) : s.cells[i]? = some (.int .u8 ((s.vr.getD i 0 : Nat) : Int)) := by
  unfold cells
  rw [List.getElem?_append_left (by simp [h.1] <;> omega), n8_get _ _ (by rw [h.1]; exact hi)]
theorem at_rg (h : s.Sz) {i : Nat} (hi : i < 11) : s.cells[16416 + i]? = some (.int .u8 ((s.rg.getD i 0 : Nat) : Int)) := by
  unfold cells
  rw [List.getElem?_append_right (by simp [h.1] <;> omega), List.getElem?_append_right (by simp [h.1, h.2.1] <;> omega), List.getElem?_append_left (by simp [h.1, h.2.1, h.2.2] <;> omega)]
  rw [show 16416 + i - (n8 s.vr).length - (n8 s.cr).length = i by simp [h.1, h.2.1] <;> omega, n8_get _ _ (by rw [h.2.2]; exact hi)]
theorem at_se' {q : Bool} (h : s.Sz) (e : s.se = q) : s.cells[16430]? = some (.bool q) := by rw [← e]; exact at_se h
theorem at_co' {q : Nat} (h : s.Sz) (e : s.co = q) : s.cells[16428]? = some (.int .u8 (q : Int)) := by rw [← e]; exact at_co h
theorem set_tail (h : s.Sz) (i : Nat) (u : Value) : s.cells.set (16427 + i) u = n8 s.vr ++ (n8 s.cr ++ (n8 s.rg ++ s.tail.set i u)) := by
  unfold cells
  rw [List.set_append_right _ _ (by simp [h.1] <;> omega), List.set_append_right _ _ (by simp [h.1, h.2.1] <;> omega), List.set_append_right _ _ (by simp [h.1, h.2.1, h.2.2] <;> omega)]
  rw [show 16427 + i - (n8 s.vr).length - (n8 s.cr).length - (n8 s.rg).length = i by simp [h.1, h.2.1, h.2.2] <;> omega]
theorem set_ad (v : Nat) (h : s.Sz) : s.cells.set 16427 (.int .u16 (v : Int)) = (s.setAd v).cells := set_tail h 0 _
theorem set_co (v : Nat) (h : s.Sz) : s.cells.set 16428 (.int .u8 (v : Int)) = (s.setCo v).cells := set_tail h 1 _
theorem set_lo (v : Nat) (h : s.Sz) : s.cells.set 16429 (.int .u8 (v : Int)) = (s.setLo v).cells := set_tail h 2 _
theorem set_se (v : Bool) (h : s.Sz) : s.cells.set 16430 (.bool v) = (s.setSe v).cells := set_tail h 3 _
theorem set_bu (v : Nat) (h : s.Sz) : s.cells.set 16431 (.int .u8 (v : Int)) = (s.setBu v).cells := set_tail h 4 _
theorem set_vr (i v : Nat) (h : s.Sz) (hi : i < 16384) : s.cells.set i (.int .u8 (v : Int)) = (s.setVr i v).cells := by
  unfold cells
  rw [List.set_append_left _ _ (by simp [h.1] <;> omega), n8_set]; rfl
theorem set_cr (i v : Nat) (h : s.Sz) (hi : i < 32) : s.cells.set (16384 + i) (.int .u8 (v : Int)) = (s.setCr i v).cells := by
  unfold cells
  rw [List.set_append_right _ _ (by simp [h.1] <;> omega), List.set_append_left _ _ (by simp [h.1, h.2.1] <;> omega), show 16384 + i - (n8 s.vr).length = i by simp [h.1], n8_set]; rfl
theorem set_rg (i v : Nat) (h : s.Sz) (hi : i < 11) : s.cells.set (16416 + i) (.int .u8 (v : Int)) = (s.setRg i v).cells := by
  unfold cells
  rw [List.set_append_right _ _ (by simp [h.1] <;> omega), List.set_append_right _ _ (by simp [h.1, h.2.1] <;> omega), List.set_append_left _ _ (by simp [h.1, h.2.1, h.2.2] <;> omega)]
  rw [show 16416 + i - (n8 s.vr).length - (n8 s.cr).length = i by simp [h.1, h.2.1] <;> omega, n8_set]; rfl
theorem r_vr : (s.rcells b c g)[0]? = some (.slice (some ⟨b, 0, none⟩) 16384 16384) := rfl
theorem r_cr : (s.rcells b c g)[1]? = some (.slice (some ⟨c, 0, none⟩) 32 32) := rfl
theorem r_rg : (s.rcells b c g)[2]? = some (.slice (some ⟨g, 0, none⟩) 11 11) := rfl
theorem r_ad : (s.rcells b c g)[3]? = some (.int .i64 (s.ad : Int)) := rfl
theorem r_co : (s.rcells b c g)[4]? = some (.int .i64 (s.co : Int)) := rfl
theorem r_lo : (s.rcells b c g)[5]? = some (.int .i64 (s.lo : Int)) := rfl
theorem r_bu : (s.rcells b c g)[6]? = some (.int .i64 (s.bu : Int)) := rfl
theorem r_se : (s.rcells b c g)[7]? = some (.bool s.se) := rfl
theorem r_se' {q : Bool} (e : s.se = q) : (s.rcells b c g)[7]? = some (.bool q) := by rw [← e]; rfl
theorem r_co' {q : Nat} (e : s.co = q) : (s.rcells b c g)[4]? = some (.int .i64 (q : Int)) := by rw [← e]; rfl
theorem drop_rg (h : s.Sz) : s.cells.drop 16416 = n8 s.rg ++ s.tail := by
  unfold cells
  rw [← List.append_assoc, List.drop_append_of_le_length (by simp [h.1, h.2.1]), List.drop_eq_nil_of_le (by simp [h.1, h.2.1]), List.nil_append]
theorem rset_ad (v : Nat) : (s.rcells b c g).set 3 (.int .i64 (v : Int)) = (s.setAd v).rcells b c g := rfl
theorem rset_co (v : Nat) : (s.rcells b c g).set 4 (.int .i64 (v : Int)) = (s.setCo v).rcells b c g := rfl
theorem rset_lo (v : Nat) : (s.rcells b c g).set 5 (.int .i64 (v : Int)) = (s.setLo v).rcells b c g := rfl
theorem rset_bu (v : Nat) : (s.rcells b c g).set 6 (.int .i64 (v : Int)) = (s.setBu v).rcells b c g := rfl
theorem rset_se (v : Bool) : (s.rcells b c g).set 7 (.bool v) = (s.setSe v).rcells b c g := rfl
theorem set_ad' {z : Int} {v : Nat} (h : s.Sz) (e : z = (v : Int)) : s.cells.set 16427 (.int .u16 z) = (s.setAd v).cells := by rw [e]; exact set_ad v h
theorem set_co' {z : Int} {v : Nat} (h : s.Sz) (e : z = (v : Int)) : s.cells.set 16428 (.int .u8 z) = (s.setCo v).cells := by rw [e]; exact set_co v h
theorem set_lo' {z : Int} {v : Nat} (h : s.Sz) (e : z = (v : Int)) : s.cells.set 16429 (.int .u8 z) = (s.setLo v).cells := by rw [e]; exact set_lo v h
theorem set_bu' {z : Int} {v : Nat} (h : s.Sz) (e : z = (v : Int)) : s.cells.set 16431 (.int .u8 z) = (s.setBu v).cells := by rw [e]; exact set_bu v h
theorem rset_ad' {z : Int} {v : Nat} (e : z = (v : Int)) : (s.rcells b c g).set 3 (.int .i64 z) = (s.setAd v).rcells b c g := by rw [e]; rfl
theorem rset_co' {z : Int} {v : Nat} (e : z = (v : Int)) : (s.rcells b c g).set 4 (.int .i64 z) = (s.setCo v).rcells b c g := by rw [e]; rfl
theorem rset_lo' {z : Int} {v : Nat} (e : z = (v : Int)) : (s.rcells b c g).set 5 (.int .i64 z) = (s.setLo v).rcells b c g := by rw [e]; rfl
theorem rset_bu' {z : Int} {v : Nat} (e : z = (v : Int)) : (s.rcells b c g).set 6 (.int .i64 z) = (s.setBu v).rcells b c g := by rw [e]; rfl
theorem rset_se' {q v : Bool} (e : q = v) : (s.rcells b c g).set 7 (.bool q) = (s.setSe v).rcells b c g := by rw [e]; rfl
theorem set_se' {q v : Bool} (h : s.Sz) (e : q = v) : s.cells.set 16430 (.bool q) = (s.setSe v).cells := by rw [e]; exact set_se v h
theorem set_vr' (i : Nat) {z : Int} {v : Nat} (h : s.Sz) (hi : i < 16384) (e : z = (v : Int)) : s.cells.set i (.int .u8 z) = (s.setVr i v).cells := by rw [e]; exact set_vr i v h hi
theorem set_cr' (i : Nat) {z : Int} {v : Nat} (h : s.Sz) (hi : i < 32) (e : z = (v : Int)) : s.cells.set (16384 + i) (.int .u8 z) = (s.setCr i v).cells := by rw [e]; exact set_cr i v h hi
theorem set_rg' (i : Nat) {z : Int} {v : Nat} (h : s.Sz) (hi : i < 11) (e : z = (v : Int)) : s.cells.set (16416 + i) (.int .u8 z) = (s.setRg i v).cells := by rw [e]; exact set_rg i v h hi
end
end Pt
theorem n8_get' (l : List Nat) (i : Nat) {x : Nat} (hi : i < l.length) (e : l.getD i 0 = x) : (n8 l)[i]? = some (.int .u8 (x : Int)) := by rw [← e]; exact n8_get l i hi
theorem n8_set' (l : List Nat) (i : Nat) {z : Int} {v : Nat} (e : z = (v : Int)) : (n8 l).set i (.int .u8 z) = n8 (l.set i v) := by rw [e]; exact n8_set l i v

section
variable {P : Program} {W0 w : World} {l l' : Blks} {ops : Array Oper} {rest : List Oper} {o : Oper} {a : Act} {Q : Exit → Act → World → Prop}
theorem Drop.of : ∀ (l : List Value) (n : Nat), n ≤ l.length → Drop l n (l.drop n)
  | _, 0, _ => .z
  | [], n + 1, h => absurd h (by simp)
  | x :: l, n + 1, h => .s (Drop.of l n (by simpa using h))
theorem Take.of : ∀ (l : List Value) (n : Nat), n ≤ l.length → Take l n (l.take n)
  | _, 0, _ => .z
  | [], n + 1, h => absurd h (by simp)
  | x :: l, n + 1, h => .s (Take.of l n (by simpa using h))
theorem Pt.dropG {s : Pt} (h : s.Sz) : Drop s.cells 16416 (n8 s.rg ++ s.tail) := by
  have := Drop.of s.cells 16416 (by rw [Pt.cells_length h]; omega)
  rwa [Pt.drop_rg h] at this
theorem Pt.takeG {s : Pt} (h : s.Sz) : Take (n8 s.rg ++ s.tail) 11 (n8 s.rg) := by
  have := Take.of (n8 s.rg ++ s.tail) 11 (by simp [h.2.2])
  rwa [List.take_append_of_le_length (by simp [h.2.2]), List.take_of_length_le (by simp [h.2.2])] at this
/-- one cell of a block that isn't written out, and what it is then -/
theorem po_put {ty t : TypeId} {x y : Operand} {v : Value} {g i : Nat} {cs cs' : List Value} (HM : Hid (Own W0 w l)) (ho : o.op = .store ty x y) (hx : a.eval x = .pointer (some ⟨g, i, none⟩)) (hy : a.eval y = v)
    (hsel : Sel l g t cs) (hcs : cs.set i v = cs') (hs : Put l g t cs cs' l') (hty : Size P ty 1) (h1 : v.oneCell' = true) (hw : Region.wanted o (yielded ops a.tmps) = true) (hi : i < cs.length)
    (hd : o.dst = none) (h : ∀ w', Hid (Own W0 w' l') → wpList P ops Q rest a w') : wpList P ops Q (o :: rest) a w := by
  subst hcs
  exact own_put HM ho hx hy hsel hs hty h1 hw hi hd h
theorem Own.sub' (h : Own W0 w l) (hs : l'.Sublist l) : Own W0 w l' := ⟨h.below, fun e he => h.whole e (hs.subset he), h.apart.sublist hs⟩
theorem Own.turn {a b : Blks} (h : Own W0 w (a ++ b)) : Own W0 w (b ++ a) := h.perm List.perm_append_comm
theorem Put.perm {g : Nat} {t : TypeId} {cs cs' : List Value} (h : Put l g t cs cs' l') : ∃ r, l.Perm ((g, t, cs) :: r) ∧ l'.Perm ((g, t, cs') :: r) := by
  induction h with
  | z => exact ⟨_, .refl _, .refl _⟩
  | s _ ih =>
    rename_i x _ _ _ _ _ _ _
    obtain ⟨r, h1, h2⟩ := ih
    exact ⟨x :: r, (h1.cons x).trans (List.Perm.swap _ _ _), (h2.cons x).trans (List.Perm.swap _ _ _)⟩
end

/-- a port's block of the program, ahead of others -/
abbrev Po (p : Nat) (s : Pt) : Nat × TypeId × List Value := (p, 56, s.cells)
/-- a port of the document: four blocks -/
abbrev Rp (p v c g : Nat) (s : Pt) (l : Blks) : Blks := (p, 42, s.rcells v c g) :: (v, 5, n8 s.vr) :: (c, 5, n8 s.cr) :: (g, 5, n8 s.rg) :: l

end Go.Proofs.Ytbjghlcdbmooaaa
