/-
  A region that draws its order, whose first n operations only load, reckon and call, and whose others follow in one order alone (a store of what the call gave): the first n walked once in the class 'the call owns these blocks', the others as a list. Nothing here speaks of the program.
-/
import Derived.Test.YtcefgcoibppdaaaQuiet
import Derived.StillTail
namespace Go.Proofs.Ytcefgcoibppdaaa
open Go.RowKit

section
variable {P : Program} {C : World → Prop} {l : List Oper} {n g : Nat} {R : Exit → Act → World → Prop}

theorem wpAny_more {ops : Array Oper} : ∀ (f : Nat) (L : Array Bool) (a : Act) (w : World), wpAny P .any ops R f L a w → wpAny P .any ops R (f + 1) L a w
  | 0, _, _, _, h => ⟨fun _ => h.2, fun i hi => by rw [h.1] at hi; cases hi⟩
  | f + 1, _, _, _, h => ⟨h.1, fun i hi => wpOp_mono (fun a' w' h' => wpAny_more f _ a' w' h') (h.2 i hi)⟩
theorem wpAny_most {ops : Array Oper} (k : Nat) {f : Nat} {L : Array Bool} {a : Act} {w : World} (h : wpAny P .any ops R f L a w) : wpAny P .any ops R (k + f) L a w := by
  induction k with
  | zero => rwa [Nat.zero_add]
  | succ k ih => rw [show k + 1 + f = (k + f) + 1 by omega]; exact wpAny_more _ _ _ _ ih

/-- each of the first n waits for lower ones alone, and its guard is one of them -/
def lowEdgesB (l : List Oper) (n : Nat) : Bool :=
  (List.range n).all fun k => match l[k]? with
    | none => false
    | some o => (o.after.all fun e => !Region.binds .any e || decide (e.on < k)) && (match o.guard with | none => true | some (j, _) => decide (j < n))
def tailOkB (l : List Oper) (n : Nat) : Bool :=
  decide (n < l.length) && Region.sinkB .any l.toArray n && Region.chainB .any l.toArray n && lowEdgesB l n &&
    Region.seqB .any l.toArray (l.length - n) n (List.replicate n true ++ List.replicate (l.length - n) false).toArray

theorem lowEdges_at (h : lowEdgesB l n = true) (k : Nat) (hk : k < n) : ∃ o, l[k]? = some o ∧ (∀ e ∈ o.after, Region.binds .any e = true → e.on < k) ∧ ∀ j b, o.guard = some (j, b) → j < n := by
  have h1 := List.all_eq_true.1 h k (List.mem_range.2 hk)
  cases ho : l[k]? with
  | none => rw [ho] at h1; cases h1
  | some o =>
    rw [ho] at h1
    simp only [Bool.and_eq_true] at h1
    refine ⟨o, rfl, fun e he hb => ?_, fun j b hg => ?_⟩
    · have h2 := (Array.all_eq_true_iff_forall_mem.1 h1.1) e he
      simpa [hb] using h2
    · have h2 := h1.2
      rw [hg] at h2
      simpa using h2

/-- the two arrays of what is listed agree below n -/
def Agree (n : Nat) (L L' : Array Bool) : Prop := L'.size = n ∧ ∀ j, j < n → L'.getD j true = L.getD j true
theorem Agree.low {L L' : Array Bool} (h : Agree n L L') (hL : n ≤ L.size) {j : Nat} (hj : j < n) : L'.getD j false = L.getD j false := by
  have h1 := h.2 j hj
  have h2 : j < L'.size := by rw [h.1]; exact hj
  have h3 : j < L.size := by omega
  simpa [h2, h3] using h1
theorem Agree.set {L L' : Array Bool} (h : Agree n L L') (hL : n ≤ L.size) (i : Nat) : Agree n (L.setIfInBounds i true) (L'.setIfInBounds i true) := by
  refine ⟨by simp [h.1], fun j hj => ?_⟩
  have h2 : j < L'.size := by rw [h.1]; exact hj
  have h3 : j < L.size := by omega
  have h1 := h.2 j hj
  by_cases hij : i = j
  · subst hij; simp [h2, h3]
  · rw [getD_set_ne true hij, getD_set_ne true hij]; exact h1

theorem take_at {i : Nat} (hi : i < n) : (l.take n).toArray[i]? = l.toArray[i]? := by simp [hi]
theorem head_ready {L L' : Array Bool} (inv : HeadInv .any l.toArray n L) (hn : n < l.length) (hA : Agree n L L') (hd : lowEdgesB l n = true) {i : Nat} (hi : i < n) :
    i ∈ Region.ready .any l.toArray L ↔ i ∈ Region.ready .any (l.take n).toArray L' := by
  have hL : n ≤ L.size := by rw [inv.size]; simp; omega
  obtain ⟨o, ho, hlow, _⟩ := lowEdges_at hd i hi
  rw [mem_ready, mem_ready, take_at hi, hA.2 i hi]
  refine and_congr_right fun _ => exists_congr fun o' => and_congr_right fun ho' => forall_congr' fun e => forall_congr' fun he => forall_congr' fun hb => ?_
  have e1 : o' = o := by
    have : l.toArray[i]? = some o := by simpa using ho
    exact Option.some.inj (ho'.symm.trans this)
  subst e1
  rw [hA.low hL (by have := hlow e he hb; omega)]
/-- while one of the first n is left, one of them is ready -/
theorem some_ready {L : Array Bool} (inv : HeadInv .any l.toArray n L) (hn : n < l.length) (hd : lowEdgesB l n = true) : ∀ k, k < n → L.getD k true = false → ∃ i, i < n ∧ i ∈ Region.ready .any l.toArray L := by
  intro k
  induction k using Nat.strongRecOn with
  | _ k ih =>
    intro hk hun
    obtain ⟨o, ho, hlow, _⟩ := lowEdges_at hd k hk
    by_cases hall : ∀ e ∈ o.after, Region.binds .any e = true → L.getD e.on false = true
    · exact ⟨k, hk, mem_ready.2 ⟨hun, o, by simpa using ho, hall⟩⟩
    · simp only [Classical.not_forall] at hall
      obtain ⟨e, he, hb, hne⟩ := hall
      have hek := hlow e he hb
      have hsz : e.on < L.size := by rw [inv.size]; simp; omega
      exact ih e.on hek (by omega) (getD_in hsz (by simpa using hne))

theorem wpAny_of_head_quiet {Qn : Act → Prop} (hs : Region.sinkB .any l.toArray n = true) (hc : Region.chainB .any l.toArray n = true) (hd : lowEdgesB l n = true) (hn : n < l.length)
    (hQ : ∀ L a w, C w → HeadInv .any l.toArray n L → (∀ i, i < n → L.getD i true = true) → Qn a → wpAny P .any l.toArray R g L a w) :
    ∀ (f : Nat) (L L' : Array Bool) (a : Act) (w : World), HeadInv .any l.toArray n L → Agree n L L' → C w → wpAnyQ P .any (l.take n).toArray C Qn f L' a → wpAny P .any l.toArray R (f + g) L a w := by
  have hnone : ∀ {L L' : Array Bool}, HeadInv .any l.toArray n L → Agree n L L' → Region.ready .any (l.take n).toArray L' = [] → ∀ i, i < n → L.getD i true = true := by
    intro L L' inv hA hr i hi
    cases hu : L.getD i true with
    | true => rfl
    | false =>
      obtain ⟨j, hj, hjr⟩ := some_ready inv hn hd i hi hu
      rw [head_ready inv hn hA hd hj, hr] at hjr
      cases hjr
  intro f
  induction f with
  | zero =>
    intro L L' a w inv hA hC h
    rw [Nat.zero_add]
    exact hQ L a w hC inv (hnone inv hA h.1) h.2
  | succ f ih =>
    intro L L' a w inv hA hC h
    by_cases hr : Region.ready .any (l.take n).toArray L' = []
    · exact wpAny_most (f + 1) (hQ L a w hC inv (hnone inv hA hr) (h.1 hr))
    · obtain ⟨i0, hi0⟩ := List.exists_mem_of_ne_nil _ hr
      have hi0n : i0 < n := by
        obtain ⟨-, o, ho, -⟩ := mem_ready.1 hi0
        have := (Array.getElem?_eq_some_iff.1 ho).1
        simp at this; omega
      have hL0 := (head_ready inv hn hA hd hi0n).2 hi0
      rw [show f + 1 + g = (f + g) + 1 by omega]
      refine ⟨fun h0 => (by rw [h0] at hL0; cases hL0), fun i hi => ?_⟩
      have hin : i < n := by
        rcases Nat.lt_or_ge i n with h1 | h1
        · exact h1
        · exact absurd hi (tail_waits hs hc (by simpa using hn) inv _ i0 rfl hi0n (mem_ready.1 hL0).1 i h1)
      have hq := h.2 i ((head_ready inv hn hA hd hin).1 hi)
      obtain ⟨o, ho, _, hg⟩ := lowEdges_at hd i hin
      have ho1 : l.toArray[i]? = some o := by simpa using ho
      have ho2 : (l.take n).toArray[i]? = some o := by rw [take_at hin]; exact ho1
      have hwant : ∀ a : Act, Region.wanted o (yielded (l.take n).toArray a.tmps) = Region.wanted o (yielded l.toArray a.tmps) := by
        intro a
        unfold Region.wanted
        split
        · rfl
        · rename_i j b hgj
          unfold yielded
          rw [take_at (hg j b hgj)]
      have hL : n ≤ L.size := by rw [inv.size]; simp; omega
      have next : ∀ a' w', C w' → wpAnyQ P .any (l.take n).toArray C Qn f (L'.setIfInBounds i true) a' → wpAny P .any l.toArray R (f + g) (L.setIfInBounds i true) a' w' :=
        fun a' w' hC' h' => ih _ _ a' w' (inv.set hi hin) (hA.set hL i) hC' h'
      unfold qOp at hq
      unfold wpOp
      simp only [ho2] at hq
      simp only [ho1]
      rw [hwant a] at hq
      split
      · rename_i hw; simp only [hw, if_true] at hq; exact .inl (Oper.wp_of_quiet hC next hq)
      · rename_i hw; simp only [hw] at hq; exact next _ _ hC hq

theorem wp_region_quiet_tail {id : Nat} {a : Act} {w : World} (n : Nat) (hm : P.follows .mixedOrders = true) (hB : Region.lexB .any (l.take n).toArray = true) (hT : tailOkB l n = true) (hC : C w.drew)
    (h : wpQuiet P (l.take n).toArray C (fun a' => ∀ w', C w' → wpList P l.toArray R (l.drop n) a' w') (l.take n) a) : (Code.region id l.toArray true).wp P R a w := by
  simp only [tailOkB, Bool.and_eq_true, decide_eq_true_eq] at hT
  obtain ⟨⟨⟨⟨hn, hs⟩, hc⟩, hd⟩, hseq⟩ := hT
  simp only [Region.lexB, Bool.and_eq_true] at hB
  have hlen : (l.take n).length = n := by simp; omega
  have inv0 : HeadInv .any l.toArray n (Array.replicate l.toArray.size false) :=
    ⟨by simp, fun j oj _ hl => (by rw [getD_replicate_false] at hl; cases hl), fun t _ ht => getD_in (by simpa using ht) (getD_replicate_false _ _)⟩
  have hA : Agree n (Array.replicate l.toArray.size false) (Array.replicate (l.take n).toArray.size false) := by
    refine ⟨by simpa using hlen, fun j hj => ?_⟩
    rw [getD_in (by simp; omega) (getD_replicate_false _ _), getD_in (by simp; omega) (getD_replicate_false _ _)]
  have hq := wpAnyQ_lex (C := C) (md := .any) hB.1 (l.take n) 0 (Array.replicate (l.take n).toArray.size false) a (by simp) (by simpa using hB.2) h
  have := wpAny_of_head_quiet (P := P) (R := R) (g := l.length - n) hs hc hd hn (fun L a' w' hC' inv hall hQ => by
    have eL : L = (List.replicate n true ++ List.replicate (l.length - n) false).toArray := by
      apply Array.ext
      · rw [inv.size]; simp; omega
      · intro j hj _
        have hj' : j < l.length := by rw [inv.size] at hj; simpa using hj
        rcases Nat.lt_or_ge j n with h1 | h1
        · have := hall j h1
          simp only [Array.getD_eq_getD_getElem?, Array.getElem?_eq_getElem hj, Option.getD_some] at this
          simp [this, h1]
        · have := inv.tail j h1 (by simpa using hj')
          simp only [Array.getD_eq_getD_getElem?, Array.getElem?_eq_getElem hj, Option.getD_some] at this
          simp [this, List.getElem_append, Nat.not_lt.2 h1]
    have hdl : (l.drop n).length = l.length - n := by simp
    have := wpAny_of_seq (md := .any) (Q' := R) (l.drop n) n L a' w' (fun j => by simp [List.getElem?_drop]) (by rw [hdl, eL]; exact hseq) (hQ w' hC')
    rwa [hdl] at this) (l.take n).length _ _ a _ inv0 hA hC hq
  refine wp_region_any hm ?_
  rw [hlen, show n + (l.length - n) = l.toArray.size by simp; omega] at this
  exact this
end
theorem own_tail {P : Program} {W0 w : World} {lst : List (Nat × TypeId × List Value)} {l : List Oper} {R : Exit → Act → World → Prop} {id : Nat} {a : Act} (n : Nat) (HM : Hid (Own W0 w lst)) (hm : P.follows .mixedOrders = true)
    (hB : Region.lexB .any (l.take n).toArray = true) (hT : tailOkB l n = true)
    (h : wpQuiet P (l.take n).toArray (fun w' => Own W0 w' lst) (fun a' => ∀ w', Hid (Own W0 w' lst) → wpList P l.toArray R (l.drop n) a' w') (l.take n) a) : (Code.region id l.toArray true).wp P R a w :=
  wp_region_quiet_tail (C := fun w' => Own W0 w' lst) n hm hB hT HM.out.drew h

end Go.Proofs.Ytcefgcoibppdaaa
