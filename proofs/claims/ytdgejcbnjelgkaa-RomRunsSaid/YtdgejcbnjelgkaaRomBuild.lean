/-
  The laws' own helper build: bytes again and again, so many in all, with one more put in at a place.
-/
import Derived.Test.YtdgejcbnjelgkaaRomAlive
import Derived.Test.YtdgejcbnjelgkaaWordsMore
import Derived.StillTailTactics
namespace Go.Proofs.Ytdgejcbnjelgkaa
open Go.RowKit

/-- how many bytes are built -/
def many (m : Int) : Int := max 0 (min m 300000)
def pick (zs : List Int) (i : Nat) : Int := zs.getD (i % zs.length) 0
def fillTo (zs : List Int) (L k : Nat) : List Int := (List.range L).map fun i => if i < k then pick zs i else 0
theorem fillTo_length (zs : List Int) (L k : Nat) : (fillTo zs L k).length = L := by simp [fillTo]
theorem fillTo_zero (zs : List Int) (L : Nat) : fillTo zs L 0 = zeros L := by
  apply List.ext_getElem?
  intro i
  by_cases hi : i < L <;> simp [fillTo, zeros, hi]
theorem fillTo_step (zs : List Int) (L k : Nat) : (u8s (fillTo zs L k)).set k (.int .u8 (pick zs k)) = u8s (fillTo zs L (k + 1)) := by
  apply List.ext_getElem?
  intro i
  rw [List.getElem?_set, u8s_get, u8s_get]
  by_cases hik : k = i
  · subst hik
    by_cases hl : k < L <;> simp [fillTo, hl]
  · by_cases hl : i < L
    · have : (i < k) = (i < k + 1) := by simp only [eq_iff_iff]; omega
      simp [fillTo, hl, hik, this]
    · simp [fillTo, hl, hik]
theorem fillTo_nil (L k : Nat) : fillTo [] L k = zeros L := by
  apply List.ext_getElem?
  intro i
  by_cases hi : i < L <;> simp [fillTo, zeros, hi, pick]
/-- what build answers -/
def built (zs : List Int) (m a x : Int) : List Int := if 0 ≤ a ∧ a < many m then (fillTo zs (many m).toNat (many m).toNat).set a.toNat x else fillTo zs (many m).toNat (many m).toNat
theorem built_length (zs : List Int) (m a x : Int) : (built zs m a x).length = (many m).toNat := by
  unfold built; split <;> simp [fillTo_length]
theorem many_bd (m : Int) : 0 ≤ many m ∧ many m ≤ 300000 := by unfold many; omega

theorem many_make (m : Int) (w : World) :
    (Instr.makeSlice 25 (.int .i64 (many m)) (.int .i64 (many m))).run Try.prog w = .ok (.slice (some ⟨w.heap.size, 0, none⟩) (many m).toNat (many m).toNat) (w.alloc (.cells (u8s (zeros (many m).toNat)).toArray 5)) := by
  have h := zeros_make (many m).toNat (by have := many_bd m; omega) w
  rwa [Int.toNat_of_nonneg (many_bd m).1] at h

/-- a piece by value: its slice of bytes, how many, the place, the byte -/
def pieceV (a : Option Addr) (n cap : Nat) (m p x : Int) : Value := .agg #[.slice a n cap, .int .i64 m, .int .i64 p, .int .u8 x]

set_option maxRecDepth 100000 in
set_option maxHeartbeats 1600000 in
theorem build_any (a : Option Addr) (n cap : Nat) (zs : List Int) (m p x : Int) (w : World) (hb : Bytes w w.heap.size a n zs) (hn : n ≤ 5000) :
    Calls Try.prog 11 #[.agg #[.slice a n cap, .int .i64 m, .int .i64 p, .int .u8 x]] w fun e w' =>
      e = .returned (.slice (some ⟨w.heap.size + 1, 0, none⟩) (many m).toNat (many m).toNat) ∧ Below w.heap.size w w' ∧ Whole w' (w.heap.size + 1) 5 (u8s (built zs m p x)) := by
  have hmk := many_make m
  obtain ⟨hm0, hm1⟩ := many_bd m
  obtain ⟨mm, hmm⟩ : ∃ mm, mm = min m 300000 := ⟨_, rfl⟩
  have HM := Lib.hid hmm
  have HN : Hid (many m = max 0 mm) := by rw [hmm]; rfl
  clear hmm
  have HB := Lib.hid hb
  clear hb
  generalize hMM : many m = M at *
  have HQ := Lib.hid hMM
  clear hMM
  obtain ⟨L, rfl⟩ := Int.eq_ofNat_of_zero_le hm0
  go_enter Try.func11, Try.ntmps11
  go_wp2_with (first
    | (with_reducible refine min_at rfl (.tmp 6) (.const (.int .i64 300000)) _ rfl .i64 .i64 m 300000 rfl rfl mm HM.out ?_)
    | (with_reducible refine max_at rfl (.const (.int .i64 0)) (.tmp 7) _ rfl .i64 .i64 0 mm rfl rfl ↑L HN.out ?_))
  go_loopw [12] (fun i wr => ∃ k : Nat, k ≤ L ∧ i = .int .i64 k ∧ Hid (Whole wr (w.heap.size + 1) 5 (u8s (fillTo zs L k)) ∧ Whole wr w.heap.size 29 [.slice a n cap, .int .i64 m, .int .i64 p, .int .u8 x] ∧ Below w.heap.size w wr))
    (fun i _ => L - (intOf i).toNat)
  case atStart =>
    refine ⟨0, by omega, rfl, ?_, ?_, ?_⟩
    · rw [fillTo_zero]
      have h := Whole.fresh (w.alloc (.cells #[.slice a n cap, .int .i64 m, .int .i64 p, .int .u8 x] 29)) 5 (u8s (zeros L))
      simpa using h
    · exact (Whole.fresh w 29 [.slice a n cap, .int .i64 m, .int .i64 p, .int .u8 x]).beside _
    · exact ((Below.refl _ _).alloc (Nat.le_refl _) _).alloc (by simp) _
  case round =>
    obtain ⟨k, hk, rfl, HR⟩ := hrel
    have c0 : wr.cell? ⟨w.heap.size, 0, none⟩ = some (.slice a n cap) := HR.out.2.1.at_ 0
    have c1 : wr.cell? ⟨w.heap.size, 1, none⟩ = some (.int .i64 m) := HR.out.2.1.at_ 1
    have c2 : wr.cell? ⟨w.heap.size, 2, none⟩ = some (.int .i64 p) := HR.out.2.1.at_ 2
    have c3 : wr.cell? ⟨w.heap.size, 3, none⟩ = some (.int .u8 x) := HR.out.2.1.at_ 3
    by_cases hlt : k < L
    · by_cases hn0 : n = 0
      · subst hn0
        go_wp2_with fail
        go_roundw
        case rel =>
          refine ⟨k + 1, by omega, by go_num, ?_, HR.out.2.1, HR.out.2.2⟩
          have hz : zs = [] := List.eq_nil_of_length_eq_zero HB.out.1
          have := HR.out.1
          rw [hz, fillTo_nil] at this ⊢
          exact this
        case measure => simp [intOf]; omega
      · have hnp : (0 : Int) < (n : Int) := by omega
        obtain ⟨g, o, rfl, hg, hc⟩ := HB.out.2 (by omega)
        obtain ⟨r, hr⟩ : ∃ r, r = k % n := ⟨_, rfl⟩
        have hrn : r < n := by rw [hr]; exact Nat.mod_lt _ (by omega)
        have hck : wr.cell? ⟨g, o + r, none⟩ = some (.int .u8 (pick zs k)) := by
          rw [HR.out.2.2.cell (p := ⟨g, o + r, none⟩) hg, hc _ hrn, pick, HB.out.1, hr]
        have hcw : wr.cell? ⟨w.heap.size + 1, k, none⟩ = (u8s (fillTo zs L k))[k]? := HR.out.1.at_ k
        rw [List.getElem?_eq_getElem (by rw [u8s_length, fillTo_length]; omega)] at hcw
        have hfr : wr.frozen? ⟨w.heap.size + 1, k, none⟩ = false := HR.out.1.free k
        have ht : (k : Int).tmod (n : Int) = (r : Int) := by
          rw [Int.tmod_eq_emod_of_nonneg (by omega), hr, Int.natCast_emod]
        have HW : Hid (Whole (wr.drew.setCell ⟨w.heap.size + 1, k, none⟩ (.int .u8 (pick zs k))) (w.heap.size + 1) 5 (u8s (fillTo zs L (k + 1))) ∧ Whole (wr.drew.setCell ⟨w.heap.size + 1, k, none⟩ (.int .u8 (pick zs k))) w.heap.size 29 [.slice (some ⟨g, o, none⟩) n cap, .int .i64 m, .int .i64 p, .int .u8 x] ∧ Below w.heap.size w (wr.drew.setCell ⟨w.heap.size + 1, k, none⟩ (.int .u8 (pick zs k)))) := by
          refine ⟨?_, HR.out.2.1.drawn.other (by simp) _, HR.out.2.2.drew.setCell (by simp) _⟩
          rw [← fillTo_step]
          exact HR.out.1.drawn.put k _
        clear hc hr
        go_wp2_with fail
        go_still_tail 12, (by kernel_rfl)
        change wpList _ _ _ _ _ wr.drew
        have hcw' : wr.drew.cell? ⟨w.heap.size + 1, k, none⟩ = _ := hcw
        have hfr' : wr.drew.frozen? ⟨w.heap.size + 1, k, none⟩ = false := hfr
        generalize wr.drew = w2 at hcw' hfr' HW ⊢
        go_wp2_with fail
        go_roundw
        case rel => exact ⟨k + 1, by omega, by go_num, HW⟩
        case measure => simp [intOf]; omega
    · obtain rfl : k = L := by omega
      by_cases hp : 0 ≤ p ∧ p < (k : Int)
      · obtain ⟨hp0, hp1⟩ := hp
        obtain ⟨q, rfl⟩ := Int.eq_ofNat_of_zero_le hp0
        have hq : q < k := by omega
        have hcw : wr.cell? ⟨w.heap.size + 1, q, none⟩ = (u8s (fillTo zs k k))[q]? := HR.out.1.at_ q
        rw [List.getElem?_eq_getElem (by rw [u8s_length, fillTo_length]; omega)] at hcw
        have hfr : wr.frozen? ⟨w.heap.size + 1, q, none⟩ = false := HR.out.1.free q
        have HE : Hid (Whole (wr.setCell ⟨w.heap.size + 1, q, none⟩ (.int .u8 x)) (w.heap.size + 1) 5 (u8s (built zs m q x))) := by
          have h := HR.out.1.put q (.int .u8 x)
          have e : u8s (built zs m q x) = (u8s (fillTo zs k k)).set q (.int .u8 x) := by
            rw [built, HQ.out, if_pos ⟨by omega, by omega⟩]
            simp [u8s, List.map_set]
          rw [e]; exact h
        have HF : Hid (Below w.heap.size w (wr.setCell ⟨w.heap.size + 1, q, none⟩ (.int .u8 x))) := HR.out.2.2.setCell (by simp) _
        go_wp2_with fail
        go_ret
        exact ⟨rfl, HF, HE⟩
      · have HE : Hid (Whole wr (w.heap.size + 1) 5 (u8s (built zs m p x))) := by
          have e : built zs m p x = fillTo zs k k := by
            rw [built, HQ.out, if_neg hp, Int.toNat_natCast]
          rw [e]; exact HR.out.1
        by_cases h0 : 0 ≤ p
        · have hge : (k : Int) ≤ p := by omega
          clear hp
          go_wp2_with fail
          go_ret
          exact ⟨rfl, HR.out.2.2, HE⟩
        · clear hp
          go_wp2_with fail
          go_ret
          exact ⟨rfl, HR.out.2.2, HE⟩

end Go.Proofs.Ytdgejcbnjelgkaa
