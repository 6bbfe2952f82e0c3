/-
  What a slice of pairs that came in holds; RomRuns for every piece and all places.
-/
import Derived.Test.YtdgejcbnjelgkaaRomPieceMore
import Derived.Test.YtdgejcbnjelgkaaRomRuns
namespace Go.Proofs.Ytdgejcbnjelgkaa
open Go.ChangeShapes Go.WideShapes Go.ChangeAt Go.RowKit Go.Deep

theorem pairs_in {H : Type} {enc : TypeId × Value → H} {W : World} {b0 : Nat} {v : Value} {d : DataW H} {q : List MemPlace} (hv : Value.okWide Try.prog W .any b0 30 v) (h : DataW.Trod enc Try.prog W 0 (fun _ => true) true 30 v d q) :
    ∃ a n cap ps, v = .slice a n cap ∧ Pairs W W.heap.size a n ps := by
  obtain ⟨a, n, cap, rfl⟩ := okWide_slice Try.underlying30 hv
  obtain ⟨fuel, hf⟩ := h
  rcases open_slice Try.underlying30 hf with ⟨hcs, _⟩ | ⟨ad, l, cp, m, k, D, Pl, hcs, _, hl, hm, hmm, _, hx⟩
  · simp [Value.cells] at hcs
    obtain ⟨rfl, rfl, rfl⟩ := hcs
    exact ⟨none, 0, 0, fun _ => (0, 0), rfl, fun h => absurd h (by omega)⟩
  · simp [Value.cells] at hcs
    obtain ⟨rfl, rfl, rfl⟩ := hcs
    simp at hmm
    subst hmm
    rw [pairCells] at hx
    obtain ⟨ps, hps⟩ := choose_lt (α := Int × Int) (n := n) (p := fun i x => W.cell? ((ad.add (i * 2)).add 0) = some (.int .i64 x.1) ∧ W.cell? ((ad.add (i * 2)).add 1) = some (.int .i64 x.2)) (fun i hi => by
      obtain ⟨cs', h1, h2⟩ := hx i (by omega)
      obtain ⟨_, hlen, hc⟩ := World.cells?_some h1
      obtain ⟨x, rfl⟩ := pair_cells hlen h2
      exact ⟨x, hc 0 (by omega), hc 1 (by omega)⟩)
    refine ⟨some ad, n, _, ps, rfl, fun hn => ?_⟩
    have h0 := (hps 0 hn).1
    obtain ⟨g, o, s⟩ := ad
    have hs : s = none := by simpa [Addr.add] using World.cell?_spot h0
    subst hs
    have hg : g < W.heap.size := by
      have := World.block_lt_of_cell? W _ h0
      simpa [Addr.add] using this
    refine ⟨g, o, rfl, hg, fun i hi => ?_⟩
    have hi' := hps i hi
    have e0 : (⟨g, o, none⟩ : Addr).add (i * 2) = ⟨g, o + i * 2, none⟩ := by unfold Addr.add; split <;> simp_all
    have e1 : (⟨g, o + i * 2, none⟩ : Addr).add 0 = ⟨g, o + i * 2, none⟩ := by simp [Addr.add]
    have e2 : (⟨g, o + i * 2, none⟩ : Addr).add 1 = ⟨g, o + i * 2 + 1, none⟩ := by simp [Addr.add]
    rw [e0, e1, e2] at hi'
    exact hi'

theorem runs_many (a : Option Addr) (n cap : Nat) (m p x : Int) (a2 : Option Addr) (n2 cap2 : Nat) (w : World) (hn : 60 < n2) :
    Calls Try.prog 4 #[.agg #[.slice a n cap, .int .i64 m, .int .i64 p, .int .u8 x], .slice a2 n2 cap2] w fun e w' => e = .returned (.bool true) ∧ Below w.heap.size w w' := by
  have hn' : (60 : Int) < (n2 : Int) := by omega
  go_enter Try.func4, Try.ntmps4
  go_wp2_with (go_at_call 7; refine (alive_any _).mono ?_; rintro e w1 ⟨rfl, hb1⟩)
  go_ret
  exact ⟨rfl, below_next ((Below.refl _ _).alloc (Nat.le_refl _) _) hb1⟩

theorem runs_long (a : Option Addr) (n cap : Nat) (m p x : Int) (a2 : Option Addr) (n2 cap2 : Nat) (w : World) (hn2 : n2 ≤ 60) (hn : 5000 < n) :
    Calls Try.prog 4 #[.agg #[.slice a n cap, .int .i64 m, .int .i64 p, .int .u8 x], .slice a2 n2 cap2] w fun e w' => e = .returned (.bool true) ∧ Below w.heap.size w w' := by
  have hn' : (5000 : Int) < (n : Int) := by omega
  have hn2' : ¬ (60 : Int) < (n2 : Int) := by omega
  have h0 : Whole (w.alloc (.cells #[.slice a n cap, .int .i64 m, .int .i64 p, .int .u8 x] 29)) w.heap.size 29 [.slice a n cap, .int .i64 m, .int .i64 p, .int .u8 x] := Whole.fresh _ _ _
  have H0 := Lib.hid h0
  clear h0
  go_enter Try.func4, Try.ntmps4
  go_wp2_with (go_at_call 7; refine (alive_any _).mono ?_; rintro e w1 ⟨rfl, hb1⟩; have c0 : w1.cell? ⟨w.heap.size, 0, none⟩ = some (.slice a n cap) := (H0.out.next hb1).at_ 0)
  go_ret
  exact ⟨rfl, below_next ((Below.refl _ _).alloc (Nat.le_refl _) _) hb1⟩

theorem runs_any (a : Option Addr) (n cap : Nat) (zs : List Int) (m p x : Int) (a2 : Option Addr) (n2 cap2 : Nat) (ps : Nat → Int × Int) (w : World) (hb : Bytes w w.heap.size a n zs) (hp : Pairs w w.heap.size a2 n2 ps) (hz : InByte zs) (hx : 0 ≤ x ∧ x < 256) :
    Calls Try.prog 4 #[.agg #[.slice a n cap, .int .i64 m, .int .i64 p, .int .u8 x], .slice a2 n2 cap2] w fun e w' => e = .returned (.bool true) ∧ Below w.heap.size w w' := by
  rcases Nat.lt_or_ge 60 n2 with h2 | h2
  · exact runs_many a n cap m p x a2 n2 cap2 w h2
  · rcases Nat.lt_or_ge 5000 n with h | h
    · exact runs_long a n cap m p x a2 n2 cap2 w h2 h
    · exact runs_short a n cap zs m p x a2 n2 cap2 ps w hb hp hz hx h h2

end Go.Proofs.Ytdgejcbnjelgkaa
