/-
  A picture's memory as a function: the tiles' bytes, and the table of sprites.
-/
import Derived.Test.YtcefgcoibppdaaaSpSpec
import Derived.Test.YtcefgcoibppdaaaVram
namespace Go.Proofs.Ytcefgcoibppdaaa
open Go.RowKit

/-- a slice of threes of bytes in memory from before -/
def TriRow (w : World) (a : Option Addr) (n : Nat) (sp : Nat → Nat → Nat) : Prop :=
  0 < n → ∃ g o, a = some ⟨g, o, none⟩ ∧ g < w.heap.size ∧ ∀ i, i < n → ∀ k, k < 3 → w.cell? ⟨g, o + i * 3 + k, none⟩ = some (.int .u8 (sp i k : Int)) ∧ sp i k < 256
theorem TriRow.under {w w' : World} {a : Option Addr} {n : Nat} {sp : Nat → Nat → Nat} (h : TriRow w a n sp) (hb : Below w.heap.size w w') : TriRow w' a n sp := by
  intro hn
  obtain ⟨g, o, rfl, hg, hc⟩ := h hn
  exact ⟨g, o, rfl, Nat.lt_of_lt_of_le hg hb.size, fun i hi k hk => ⟨(hb.cell (p := ⟨g, o + i * 3 + k, none⟩) hg).trans (hc i hi k hk).1, (hc i hi k hk).2⟩⟩
theorem TriRow.nil (w : World) (a : Option Addr) (sp : Nat → Nat → Nat) : TriRow w a 0 sp := fun h => absurd h (by omega)
def bTile (tl : Nat → Nat) (nt i : Nat) : Nat := if nt = 0 then 0 else Nat.land (tl (i % nt)) (i / 7 % 256)
/-- behind so many sprites -/
def bAt (T : Nat → Nat) (base : Nat) (sp : Nat → Nat → Nat) : Nat → Nat → Nat
  | 0 => fun i => if i < 16384 then T i else 0
  | j + 1 => upd (upd (upd (bAt T base sp j) ((base + j) % 16384) (sp j 0)) ((base + 128 + 2 * j) % 16384) (sp j 1)) ((base + 129 + 2 * j) % 16384) (sp j 2)
def bMem (T : Nat → Nat) (base : Nat) (sp : Nat → Nat → Nat) (ns : Nat) : Nat → Nat := if ns < 64 then upd (bAt T base sp ns) ((base + ns) % 16384) 208 else bAt T base sp ns
theorem land_lt (a b : Nat) (h : a < 256) : Nat.land a b < 256 := Nat.lt_of_le_of_lt Nat.and_le_left h
theorem bTile_lt {tl : Nat → Nat} {nt : Nat} (h : ∀ i, i < nt → tl i < 256) (i : Nat) : bTile tl nt i < 256 := by
  unfold bTile
  split
  · omega
  · rename_i h0
    exact land_lt _ _ (h _ (Nat.mod_lt _ (by omega)))
theorem bAt_lt {T : Nat → Nat} {base : Nat} {sp : Nat → Nat → Nat} {ns : Nat} (hT : ∀ i, T i < 256) (hs : ∀ i, i < ns → ∀ k, k < 3 → sp i k < 256) : ∀ j, j ≤ ns → ∀ i, bAt T base sp j i < 256
  | 0, _ => fun i => by show (if i < 16384 then T i else 0) < 256; split; exact hT i; omega
  | j + 1, hj => upd_lt (upd_lt (upd_lt (bAt_lt hT hs j (by omega)) _ (hs j hj 0 (by omega))) _ (hs j hj 1 (by omega))) _ (hs j hj 2 (by omega))
theorem bMem_lt {T : Nat → Nat} {base : Nat} {sp : Nat → Nat → Nat} {ns : Nat} (hT : ∀ i, T i < 256) (hs : ∀ i, i < ns → ∀ k, k < 3 → sp i k < 256) (i : Nat) : bMem T base sp ns i < 256 := by
  unfold bMem
  split
  · exact upd_lt (bAt_lt hT hs ns (Nat.le_refl _)) _ (by decide) i
  · exact bAt_lt hT hs ns (Nat.le_refl _) i
theorem upd_step (T : Nat → Nat) (j : Nat) : upd (fun i => if i < j then T i else 0) j (T j) = fun i => if i < j + 1 then T i else 0 := by
  funext i
  unfold upd
  by_cases h1 : i = j
  · subst h1; simp
  · by_cases h2 : i < j
    · rw [if_neg h1]; show (if i < j then T i else 0) = _; rw [if_pos h2, if_pos (by omega)]
    · rw [if_neg h1]; show (if i < j then T i else 0) = _; rw [if_neg h2, if_neg (by omega)]
theorem zero_step (T : Nat → Nat) (h : ∀ i, T i = 0) (j k : Nat) : (fun i => if i < j then T i else 0) = fun i => if i < k then T i else 0 := by
  funext i; simp [h]
section
variable {W0 w : World} {l l' : List (Nat × TypeId × List Value)} {ops : Array Oper} {rest : List Oper} {o : Oper} {a : Act} {Q : Exit → Act → World → Prop}
/-- a byte is stored into any of the blocks -/
theorem own_b8s {ty t : TypeId} {x y : Operand} {g m i v : Nat} {xs : Nat → Nat} (HM : Hid (Own W0 w l)) (ho : o.op = .store ty x y) (hx : a.eval x = .pointer (some ⟨g, i, none⟩)) (hy : a.eval y = .int .u8 (v : Int))
    (hsel : Sel l g t (b8 m xs)) (hs : Put l g t (b8 m xs) (b8 m (upd xs i v)) l') (hty : One Try.prog ty) (hi : i < m) (hw : Region.wanted o (yielded ops a.tmps) = true) (hd : o.dst = none) (h : ∀ w', Hid (Own W0 w' l') → wpList Try.prog ops Q rest a w') : wpList Try.prog ops Q (o :: rest) a w := by
  refine own_put HM ho hx hy hsel (l' := l') ?_ hty.size rfl hw (by rw [b8_length]; exact hi) hd h
  rw [b8_set]; exact hs
/-- three bytes of memory from before -/
theorem own_tri {ty : TypeId} {x : Operand} {g ob off n i : Nat} {sp : Nat → Nat → Nat} (HM : Hid (Own W0 w l)) (HT : Hid (∀ i, i < n → ∀ k, k < 3 → W0.cell? ⟨g, ob + i * 3 + k, none⟩ = some (.int .u8 (sp i k : Int)))) (hg : g < W0.heap.size) (hi : i < n) (ho : o.op = .load ty x) (hx : a.eval x = .pointer (some ⟨g, off, none⟩)) (hoff : off = ob + i * 3) (hty : Agg Try.prog ty 3) (hw : Region.wanted o (yielded ops a.tmps) = true)
    (h : wpList Try.prog ops Q rest (a.put o.dst (.agg #[.int .u8 (sp i 0 : Int), .int .u8 (sp i 1 : Int), .int .u8 (sp i 2 : Int)])) w) : wpList Try.prog ops Q (o :: rest) a w := by
  refine wpList_wanted hw fun K hK => ?_
  obtain ⟨⟨d, hu, hr⟩, hsz⟩ := hty
  refine wp_load_mid ty x ho g off hx [.int .u8 (sp i 0 : Int), .int .u8 (sp i 1 : Int), .int .u8 (sp i 2 : Int)] d ?_ hu hr hsz (hK _ _ h)
  intro j v hv
  subst hoff
  have hc (k : Nat) (hk : k < 3) : w.cell? ⟨g, ob + i * 3 + k, none⟩ = some (.int .u8 (sp i k : Int)) := (HM.out.below.cell (p := ⟨g, ob + i * 3 + k, none⟩) hg).trans (HT.out i hi k hk)
  match j, hv with
  | 0, hv => rw [hc 0 (by omega)]; exact hv
  | 1, hv => rw [hc 1 (by omega)]; exact hv
  | 2, hv => rw [hc 2 (by omega)]; exact hv
  | _ + 3, hv => simp at hv
end

end Go.Proofs.Ytcefgcoibppdaaa
