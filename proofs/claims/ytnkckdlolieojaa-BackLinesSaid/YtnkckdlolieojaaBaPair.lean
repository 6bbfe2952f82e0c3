/-
  So many colors, and as many times whether it is in front, as cells: read and written. Nothing here speaks of the program.
-/
import Derived.Test.YtnkckdlolieojaaOwn
import Derived.Test.YtnkckdlolieojaaVram
import Derived.Test.YtnkckdlolieojaaTakes
namespace Go.Proofs.Ytnkckdlolieojaa
open Go.RowKit

def pcells (k : Nat) (f : Nat → Nat) (g : Nat → Bool) : List Value := (List.range k).map (fun x => .int .u8 (f x : Int)) ++ (List.range k).map fun x => .bool (g x)
theorem pcells_length (k : Nat) (f : Nat → Nat) (g : Nat → Bool) : (pcells k f g).length = k + k := by simp [pcells]
theorem pcells_color {k : Nat} (f : Nat → Nat) (g : Nat → Bool) (x : Nat) (h : x < k) : (pcells k f g)[x]? = some (.int .u8 (f x : Int)) := by
  unfold pcells
  rw [List.getElem?_append_left (by simpa using h)]
  simp [h]
theorem pcells_front {k : Nat} (f : Nat → Nat) (g : Nat → Bool) (x : Nat) (h : x < k) : (pcells k f g)[k + x]? = some (.bool (g x)) := by
  unfold pcells
  rw [List.getElem?_append_right (by simp)]
  simp [h]
theorem pcells_one (k : Nat) (f : Nat → Nat) (g : Nat → Bool) : (pcells k f g).all (·.oneCell') = true := by
  rw [List.all_eq_true]
  intro v hv
  unfold pcells at hv
  rcases List.mem_append.1 hv with h | h
  · obtain ⟨x, _, rfl⟩ := List.mem_map.1 h; rfl
  · obtain ⟨x, _, rfl⟩ := List.mem_map.1 h; rfl
theorem pcells_ext {k : Nat} {f f' : Nat → Nat} {g g' : Nat → Bool} (h1 : ∀ x, x < k → f x = f' x) (h2 : ∀ x, x < k → g x = g' x) : pcells k f g = pcells k f' g' := by
  unfold pcells
  congr 1
  · exact List.map_congr_left fun x hx => by rw [h1 x (List.mem_range.1 hx)]
  · exact List.map_congr_left fun x hx => by rw [h2 x (List.mem_range.1 hx)]
def updB (g : Nat → Bool) (i : Nat) (t : Bool) : Nat → Bool := fun j => if j = i then t else g j
theorem pcells_at {k : Nat} (f : Nat → Nat) (g : Nat → Bool) (i : Nat) : (pcells k f g)[i]? = if i < k then some (.int .u8 (f i : Int)) else if i < k + k then some (.bool (g (i - k))) else none := by
  split
  · exact pcells_color f g i (by assumption)
  · split
    · rename_i h1 h2
      have := pcells_front f g (i - k) (by omega : i - k < k)
      rwa [show k + (i - k) = i by omega] at this
    · rw [List.getElem?_eq_none_iff, pcells_length]; omega
theorem pcells_set {k : Nat} (f : Nat → Nat) (g : Nat → Bool) (i v : Nat) (h : i < k) : (pcells k f g).set i (.int .u8 (v : Int)) = pcells k (upd f i v) g := by
  apply List.ext_getElem?
  intro j
  rw [List.getElem?_set, pcells_length, pcells_at, pcells_at]
  unfold upd
  by_cases hj : i = j
  · subst hj
    have : i < k + k := by omega
    simp [h, this]
  · rw [if_neg hj]
    simp only [if_neg (show ¬ j = i from fun e => hj e.symm)]
theorem pcells_setB {k : Nat} (f : Nat → Nat) (g : Nat → Bool) (i : Nat) (t : Bool) (h : i < k) : (pcells k f g).set (k + i) (.bool t) = pcells k f (updB g i t) := by
  apply List.ext_getElem?
  intro j
  rw [List.getElem?_set, pcells_length, pcells_at, pcells_at]
  unfold updB
  by_cases hj : k + i = j
  · subst hj
    have e1 : ¬ k + i < k := by omega
    have e2 : k + i - k = i := by omega
    have e3 : k + i < k + k := by omega
    simp [e1, e2, e3]
  · rw [if_neg hj]
    by_cases h1 : j < k
    · simp [h1]
    · by_cases h2 : j < k + k
      · have e : ¬ j - k = i := by omega
        simp [h1, h2, e]
      · simp [h1, h2]
section
variable {P : Program} {W0 w : World} {l l' : List (Nat × TypeId × List Value)} {ops : Array Oper} {rest : List Oper} {o : Oper} {a : Act} {Q : Exit → Act → World → Prop}
theorem own_pput {ty t : TypeId} {x y : Operand} {g k i v : Nat} {F : Nat → Nat} {G : Nat → Bool} (HM : Hid (Own W0 w l)) (ho : o.op = .store ty x y) (hx : a.eval x = .pointer (some ⟨g, i, none⟩)) (hy : a.eval y = .int .u8 (v : Int))
    (hty : One P ty) (hi : i < k) (hsel : Sel l g t (pcells k F G)) (hs : Put l g t (pcells k F G) (pcells k (upd F i v) G) l') (hw : Region.wanted o (yielded ops a.tmps) = true)
    (hd : o.dst = none) (h : ∀ w', Hid (Own W0 w' l') → wpList P ops Q rest a w') : wpList P ops Q (o :: rest) a w := by
  refine own_put (l' := l') HM ho hx hy hsel ?_ hty.size rfl hw (by rw [pcells_length]; omega) hd h
  rw [pcells_set F G i v hi]
  exact hs
theorem own_pputB {ty t : TypeId} {x y : Operand} {g k i n : Nat} {b : Bool} {F : Nat → Nat} {G : Nat → Bool} (HM : Hid (Own W0 w l)) (ho : o.op = .store ty x y) (hx : a.eval x = .pointer (some ⟨g, n, none⟩)) (hy : a.eval y = .bool b)
    (hty : One P ty) (hn : n = k + i) (hi : i < k) (hsel : Sel l g t (pcells k F G)) (hs : Put l g t (pcells k F G) (pcells k F (updB G i b)) l') (hw : Region.wanted o (yielded ops a.tmps) = true)
    (hd : o.dst = none) (h : ∀ w', Hid (Own W0 w' l') → wpList P ops Q rest a w') : wpList P ops Q (o :: rest) a w := by
  subst hn
  refine own_put (l' := l') HM ho hx hy hsel ?_ hty.size rfl hw (by rw [pcells_length]; omega) hd h
  rw [pcells_setB F G i b hi]
  exact hs
end

end Go.Proofs.Ytnkckdlolieojaa
