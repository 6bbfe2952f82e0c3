import Derived.Test.YtijjigacmmhloaaQ0
import Derived.StillTail
import Derived.Laws.StructEq
import Derived.ChangeKeysEq
namespace Go.Proofs.Ytijjigacmmhloaa
open Go.RowKit
def pcells (k : Nat) (f : Nat → Nat) (g : Nat → Bool) : List Value := (List.range k).map (fun x => .int .u8 (f x : Int)) ++ (List.range k).map fun x => .bool (g x)
theorem pcells_length (k : Nat) (f : Nat → Nat) (g : Nat → Bool) : (pcells k f g).length = k + k := by simp [pcells]
theorem pcells_color {k : Nat} (f : Nat → Nat) (g : Nat → Bool) (x : Nat) (h : x < k) : (pcells k f g)[x]? = some (.int .u8 (f x : Int)) := by
  unfold pcells
  rw [List.getElem?_append_left (by simpa using h)]
  simp [h]
theorem pcells_front {k : Nat} (f : Nat → Nat) (g : Nat → Bool) (x : Nat) (h : x < k) : (pcells k f g)[k + x]? = some (.bool (g x)) := by
  unfold pcells
  rw [List.getElem?_append_right (by simp)]
  simp [h]
theorem pcells_one (k : Nat) (f : Nat → Nat) (g : Nat → Bool) : (pcells k f g).all (·.oneCell') = true := by
  rw [List.all_eq_true]
  intro v hv
  unfold pcells at hv
  rcases List.mem_append.1 hv with h | h
  · obtain ⟨x, _, rfl⟩ := List.mem_map.1 h; rfl
  · obtain ⟨x, _, rfl⟩ := List.mem_map.1 h; rfl
theorem pcells_ext {k : Nat} {f f' : Nat → Nat} {g g' : Nat → Bool} (h1 : ∀ x, x < k → f x = f' x) (h2 : ∀ x, x < k → g x = g' x) : pcells k f g = pcells k f' g' := by
  unfold pcells
  congr 1
  · exact List.map_congr_left fun x hx => by rw [h1 x (List.mem_range.1 hx)]
  · exact List.map_congr_left fun x hx => by rw [h2 x (List.mem_range.1 hx)]
def updB (g : Nat → Bool) (i : Nat) (t : Bool) : Nat → Bool := fun j => if j = i then t else g j
theorem pcells_at {k : Nat} (f : Nat → Nat) (g : Nat → Bool) (i : Nat) : (pcells k f g)[i]? = if i < k then some (.int .u8 (f i : Int)) else if i < k + k then some (.bool (g (i - k))) else none := by
  split
  · exact pcells_color f g i (by assumption)
  · split
    · rename_i h1 h2
      have := pcells_front f g (i - k) (by omega : i - k < k)
      rwa [show k + (i - k) = i by omega] at this
    · rw [List.getElem?_eq_none_iff, pcells_length]; omega
theorem pcells_set {k : Nat} (f : Nat → Nat) (g : Nat → Bool) (i v : Nat) (h : i < k) : (pcells k f g).set i (.int .u8 (v : Int)) = pcells k (upd f i v) g := by
  apply List.ext_getElem?
  intro j
  rw [List.getElem?_set, pcells_length, pcells_at, pcells_at]
  unfold upd
  by_cases hj : i = j
  · subst hj
    have : i < k + k := by omega
    simp [h, this]
  · rw [if_neg hj]
    simp only [if_neg (show ¬ j = i from fun e => hj e.symm)]
theorem pcells_setB {k : Nat} (f : Nat → Nat) (g : Nat → Bool) (i : Nat) (t : Bool) (h : i < k) : (pcells k f g).set (k + i) (.bool t) = pcells k f (updB g i t) := by
  apply List.ext_getElem?
  intro j
  rw [List.getElem?_set, pcells_length, pcells_at, pcells_at]
  unfold updB
  by_cases hj : k + i = j
  · subst hj
    have e1 : ¬ k + i < k := by omega
    have e2 : k + i - k = i := by omega
    have e3 : k + i < k + k := by omega
    simp [e1, e2, e3]
  · rw [if_neg hj]
    by_cases h1 : j < k
    · simp [h1]
    · by_cases h2 : j < k + k
      · have e : ¬ j - k = i := by omega
        simp [h1, h2, e]
      · simp [h1, h2]
section
variable {P : Program} {W0 w : World} {l l' : List (Nat × TypeId × List Value)} {ops : Array Oper} {rest : List Oper} {o : Oper} {a : Act} {Q : Exit → Act → World → Prop}
theorem own_pput {ty t : TypeId} {x y : Operand} {g k i v : Nat} {F : Nat → Nat} {G : Nat → Bool} (HM : Hid (Own W0 w l)) (ho : o.op = .store ty x y) (hx : a.eval x = .pointer (some ⟨g, i, none⟩)) (hy : a.eval y = .int .u8 (v : Int))
    (hty : One P ty) (hi : i < k) (hsel : Sel l g t (pcells k F G)) (hs : Put l g t (pcells k F G) (pcells k (upd F i v) G) l') (hw : Region.wanted o (yielded ops a.tmps) = true)
    (hd : o.dst = none) (h : ∀ w', Hid (Own W0 w' l') → wpList P ops Q rest a w') : wpList P ops Q (o :: rest) a w := by
  refine own_put (l' := l') HM ho hx hy hsel ?_ hty.size rfl hw (by rw [pcells_length]; omega) hd h
  rw [pcells_set F G i v hi]
  exact hs
theorem own_pputB {ty t : TypeId} {x y : Operand} {g k i n : Nat} {b : Bool} {F : Nat → Nat} {G : Nat → Bool} (HM : Hid (Own W0 w l)) (ho : o.op = .store ty x y) (hx : a.eval x = .pointer (some ⟨g, n, none⟩)) (hy : a.eval y = .bool b)
    (hty : One P ty) (hn : n = k + i) (hi : i < k) (hsel : Sel l g t (pcells k F G)) (hs : Put l g t (pcells k F G) (pcells k F (updB G i b)) l') (hw : Region.wanted o (yielded ops a.tmps) = true)
    (hd : o.dst = none) (h : ∀ w', Hid (Own W0 w' l') → wpList P ops Q rest a w') : wpList P ops Q (o :: rest) a w := by
  subst hn
  refine own_put (l' := l') HM ho hx hy hsel ?_ hty.size rfl hw (by rw [pcells_length]; omega) hd h
  rw [pcells_setB F G i b hi]
  exact hs
end
theorem agg8 : Agg Try.prog 70 8 := ⟨⟨_, Try.underlying70, rfl⟩, by kernel_rfl⟩
theorem zero8 : Zero Try.prog 70 [.int .u8 0, .int .u8 0, .int .u8 0, .int .u8 0, .int .u8 0, .int .u8 0, .int .u8 0, .int .u8 0] := ⟨.agg #[.int .u8 0, .int .u8 0, .int .u8 0, .int .u8 0, .int .u8 0, .int .u8 0, .int .u8 0, .int .u8 0], fun _ => by kernel_rfl, rfl⟩
section
variable {P : Program} {C : World → Prop} {l : List Oper} {n g : Nat} {R : Exit → Act → World → Prop}
theorem wpAny_more {ops : Array Oper} : ∀ (f : Nat) (L : Array Bool) (a : Act) (w : World), wpAny P .any ops R f L a w → wpAny P .any ops R (f + 1) L a w
  | 0, _, _, _, h => ⟨fun _ => h.2, fun i hi => by rw [h.1] at hi; cases hi⟩
  | f + 1, _, _, _, h => ⟨h.1, fun i hi => wpOp_mono (fun a' w' h' => wpAny_more f _ a' w' h') (h.2 i hi)⟩
theorem wpAny_most {ops : Array Oper} (k : Nat) {f : Nat} {L : Array Bool} {a : Act} {w : World} (h : wpAny P .any ops R f L a w) : wpAny P .any ops R (k + f) L a w := by
  induction k with
  | zero => rwa [Nat.zero_add]
  | succ k ih => rw [show k + 1 + f = (k + f) + 1 by omega]; exact wpAny_more _ _ _ _ ih
def lowEdgesB (l : List Oper) (n : Nat) : Bool :=
  (List.range n).all fun k => match l[k]? with
    | none => false
    | some o => (o.after.all fun e => !Region.binds .any e || decide (e.on < k)) && (match o.guard with | none => true | some (j, _) => decide (j < n))
def tailOkB (l : List Oper) (n : Nat) : Bool :=
  decide (n < l.length) && Region.sinkB .any l.toArray n && Region.chainB .any l.toArray n && lowEdgesB l n &&
    Region.seqB .any l.toArray (l.length - n) n (List.replicate n true ++ List.replicate (l.length - n) false).toArray
theorem lowEdges_at (h : lowEdgesB l n = true) (k : Nat) (hk : k < n) : ∃ o, l[k]? = some o ∧ (∀ e ∈ o.after, Region.binds .any e = true → e.on < k) ∧ ∀ j b, o.guard = some (j, b) → j < n := by
  have h1 := List.all_eq_true.1 h k (List.mem_range.2 hk)
  cases ho : l[k]? with
  | none => rw [ho] at h1; cases h1
  | some o =>
    rw [ho] at h1
    simp only [Bool.and_eq_true] at h1
    refine ⟨o, rfl, fun e he hb => ?_, fun j b hg => ?_⟩
    · have h2 := (Array.all_eq_true_iff_forall_mem.1 h1.1) e he
      simpa [hb] using h2
    · have h2 := h1.2
      rw [hg] at h2
      simpa using h2
def Agree (n : Nat) (L L' : Array Bool) : Prop := L'.size = n ∧ ∀ j, j < n → L'.getD j true = L.getD j true
theorem Agree.low {L L' : Array Bool} (h : Agree n L L') (hL : n ≤ L.size) {j : Nat} (hj : j < n) : L'.getD j false = L.getD j false := by
  have h1 := h.2 j hj
  have h2 : j < L'.size := by rw [h.1]; exact hj
  have h3 : j < L.size := by omega
  simpa [h2, h3] using h1
theorem Agree.set {L L' : Array Bool} (h : Agree n L L') (hL : n ≤ L.size) (i : Nat) : Agree n (L.setIfInBounds i true) (L'.setIfInBounds i true) := by
  refine ⟨by simp [h.1], fun j hj => ?_⟩
  have h2 : j < L'.size := by rw [h.1]; exact hj
  have h3 : j < L.size := by omega
  have h1 := h.2 j hj
  by_cases hij : i = j
  · subst hij; simp [h2, h3]
  · rw [getD_set_ne true hij, getD_set_ne true hij]; exact h1
theorem take_at {i : Nat} (hi : i < n) : (l.take n).toArray[i]? = l.toArray[i]? := by simp [hi]
theorem head_ready {L L' : Array Bool} (inv : HeadInv .any l.toArray n L) (hn : n < l.length) (hA : Agree n L L') (hd : lowEdgesB l n = true) {i : Nat} (hi : i < n) :
    i ∈ Region.ready .any l.toArray L ↔ i ∈ Region.ready .any (l.take n).toArray L' := by
  have hL : n ≤ L.size := by rw [inv.size]; simp; omega
  obtain ⟨o, ho, hlow, _⟩ := lowEdges_at hd i hi
  rw [mem_ready, mem_ready, take_at hi, hA.2 i hi]
  refine and_congr_right fun _ => exists_congr fun o' => and_congr_right fun ho' => forall_congr' fun e => forall_congr' fun he => forall_congr' fun hb => ?_
  have e1 : o' = o := by
    have : l.toArray[i]? = some o := by simpa using ho
    exact Option.some.inj (ho'.symm.trans this)
  subst e1
  rw [hA.low hL (by have := hlow e he hb; omega)]
theorem some_ready {L : Array Bool} (inv : HeadInv .any l.toArray n L) (hn : n < l.length) (hd : lowEdgesB l n = true) : ∀ k, k < n → L.getD k true = false → ∃ i, i < n ∧ i ∈ Region.ready .any l.toArray L := by
  intro k
  induction k using Nat.strongRecOn with
  | _ k ih =>
    intro hk hun
    obtain ⟨o, ho, hlow, _⟩ := lowEdges_at hd k hk
    by_cases hall : ∀ e ∈ o.after, Region.binds .any e = true → L.getD e.on false = true
    · exact ⟨k, hk, mem_ready.2 ⟨hun, o, by simpa using ho, hall⟩⟩
    · simp only [Classical.not_forall] at hall
      obtain ⟨e, he, hb, hne⟩ := hall
      have hek := hlow e he hb
      have hsz : e.on < L.size := by rw [inv.size]; simp; omega
      exact ih e.on hek (by omega) (getD_in hsz (by simpa using hne))
theorem wpAny_of_head_quiet {Qn : Act → Prop} (hs : Region.sinkB .any l.toArray n = true) (hc : Region.chainB .any l.toArray n = true) (hd : lowEdgesB l n = true) (hn : n < l.length)
    (hQ : ∀ L a w, C w → HeadInv .any l.toArray n L → (∀ i, i < n → L.getD i true = true) → Qn a → wpAny P .any l.toArray R g L a w) :
    ∀ (f : Nat) (L L' : Array Bool) (a : Act) (w : World), HeadInv .any l.toArray n L → Agree n L L' → C w → wpAnyQ P .any (l.take n).toArray C Qn f L' a → wpAny P .any l.toArray R (f + g) L a w := by
  have hnone : ∀ {L L' : Array Bool}, HeadInv .any l.toArray n L → Agree n L L' → Region.ready .any (l.take n).toArray L' = [] → ∀ i, i < n → L.getD i true = true := by
    intro L L' inv hA hr i hi
    cases hu : L.getD i true with
    | true => rfl
    | false =>
      obtain ⟨j, hj, hjr⟩ := some_ready inv hn hd i hi hu
      rw [head_ready inv hn hA hd hj, hr] at hjr
      cases hjr
  intro f
  induction f with
  | zero =>
    intro L L' a w inv hA hC h
    rw [Nat.zero_add]
    exact hQ L a w hC inv (hnone inv hA h.1) h.2
  | succ f ih =>
    intro L L' a w inv hA hC h
    by_cases hr : Region.ready .any (l.take n).toArray L' = []
    · exact wpAny_most (f + 1) (hQ L a w hC inv (hnone inv hA hr) (h.1 hr))
    · obtain ⟨i0, hi0⟩ := List.exists_mem_of_ne_nil _ hr
      have hi0n : i0 < n := by
        obtain ⟨-, o, ho, -⟩ := mem_ready.1 hi0
        have := (Array.getElem?_eq_some_iff.1 ho).1
        simp at this; omega
      have hL0 := (head_ready inv hn hA hd hi0n).2 hi0
      rw [show f + 1 + g = (f + g) + 1 by omega]
      refine ⟨fun h0 => (by rw [h0] at hL0; cases hL0), fun i hi => ?_⟩
      have hin : i < n := by
        rcases Nat.lt_or_ge i n with h1 | h1
        · exact h1
        · exact absurd hi (tail_waits hs hc (by simpa using hn) inv _ i0 rfl hi0n (mem_ready.1 hL0).1 i h1)
      have hq := h.2 i ((head_ready inv hn hA hd hin).1 hi)
      obtain ⟨o, ho, _, hg⟩ := lowEdges_at hd i hin
      have ho1 : l.toArray[i]? = some o := by simpa using ho
      have ho2 : (l.take n).toArray[i]? = some o := by rw [take_at hin]; exact ho1
      have hwant : ∀ a : Act, Region.wanted o (yielded (l.take n).toArray a.tmps) = Region.wanted o (yielded l.toArray a.tmps) := by
        intro a
        unfold Region.wanted
        split
        · rfl
        · rename_i j b hgj
          unfold yielded
          rw [take_at (hg j b hgj)]
      have hL : n ≤ L.size := by rw [inv.size]; simp; omega
      have next : ∀ a' w', C w' → wpAnyQ P .any (l.take n).toArray C Qn f (L'.setIfInBounds i true) a' → wpAny P .any l.toArray R (f + g) (L.setIfInBounds i true) a' w' :=
        fun a' w' hC' h' => ih _ _ a' w' (inv.set hi hin) (hA.set hL i) hC' h'
      unfold qOp at hq
      unfold wpOp
      simp only [ho2] at hq
      simp only [ho1]
      rw [hwant a] at hq
      split
      · rename_i hw; simp only [hw, if_true] at hq; exact .inl (Oper.wp_of_quiet hC next hq)
      · rename_i hw; simp only [hw] at hq; exact next _ _ hC hq
theorem wp_region_quiet_tail {id : Nat} {a : Act} {w : World} (n : Nat) (hm : P.follows .mixedOrders = true) (hB : Region.lexB .any (l.take n).toArray = true) (hT : tailOkB l n = true) (hC : C w.drew)
    (h : wpQuiet P (l.take n).toArray C (fun a' => ∀ w', C w' → wpList P l.toArray R (l.drop n) a' w') (l.take n) a) : (Code.region id l.toArray true).wp P R a w := by
  simp only [tailOkB, Bool.and_eq_true, decide_eq_true_eq] at hT
  obtain ⟨⟨⟨⟨hn, hs⟩, hc⟩, hd⟩, hseq⟩ := hT
  simp only [Region.lexB, Bool.and_eq_true] at hB
  have hlen : (l.take n).length = n := by simp; omega
  have inv0 : HeadInv .any l.toArray n (Array.replicate l.toArray.size false) :=
    ⟨by simp, fun j oj _ hl => (by rw [getD_replicate_false] at hl; cases hl), fun t _ ht => getD_in (by simpa using ht) (getD_replicate_false _ _)⟩
  have hA : Agree n (Array.replicate l.toArray.size false) (Array.replicate (l.take n).toArray.size false) := by
    refine ⟨by simpa using hlen, fun j hj => ?_⟩
    rw [getD_in (by simp; omega) (getD_replicate_false _ _), getD_in (by simp; omega) (getD_replicate_false _ _)]
  have hq := wpAnyQ_lex (C := C) (md := .any) hB.1 (l.take n) 0 (Array.replicate (l.take n).toArray.size false) a (by simp) (by simpa using hB.2) h
  have := wpAny_of_head_quiet (P := P) (R := R) (g := l.length - n) hs hc hd hn (fun L a' w' hC' inv hall hQ => by
    have eL : L = (List.replicate n true ++ List.replicate (l.length - n) false).toArray := by
      apply Array.ext
      · rw [inv.size]; simp; omega
      · intro j hj _
        have hj' : j < l.length := by rw [inv.size] at hj; simpa using hj
        rcases Nat.lt_or_ge j n with h1 | h1
        · have := hall j h1
          simp only [Array.getD_eq_getD_getElem?, Array.getElem?_eq_getElem hj, Option.getD_some] at this
          simp [this, h1]
        · have := inv.tail j h1 (by simpa using hj')
          simp only [Array.getD_eq_getD_getElem?, Array.getElem?_eq_getElem hj, Option.getD_some] at this
          simp [this, List.getElem_append, Nat.not_lt.2 h1]
    have hdl : (l.drop n).length = l.length - n := by simp
    have := wpAny_of_seq (md := .any) (Q' := R) (l.drop n) n L a' w' (fun j => by simp [List.getElem?_drop]) (by rw [hdl, eL]; exact hseq) (hQ w' hC')
    rwa [hdl] at this) (l.take n).length _ _ a _ inv0 hA hC hq
  refine wp_region_any hm ?_
  rw [hlen, show n + (l.length - n) = l.toArray.size by simp; omega] at this
  exact this
end
theorem own_tail {P : Program} {W0 w : World} {lst : List (Nat × TypeId × List Value)} {l : List Oper} {R : Exit → Act → World → Prop} {id : Nat} {a : Act} (n : Nat) (HM : Hid (Own W0 w lst)) (hm : P.follows .mixedOrders = true)
    (hB : Region.lexB .any (l.take n).toArray = true) (hT : tailOkB l n = true)
    (h : wpQuiet P (l.take n).toArray (fun w' => Own W0 w' lst) (fun a' => ∀ w', Hid (Own W0 w' lst) → wpList P l.toArray R (l.drop n) a' w') (l.take n) a) : (Code.region id l.toArray true).wp P R a w :=
  wp_region_quiet_tail (C := fun w' => Own W0 w' lst) n hm hB hT HM.out.drew h
theorem wrap_mod (x : Int) : IntKind.i64.wrap x % 16384 = x % 16384 := by rw [IntKind.wrap_i64]; omega
theorem ent_mod (base line column p1 p2 p3 p4 : Int) (h1 : IntKind.i64.wrap (64 * line) = p1) (h2 : IntKind.i64.wrap (base + p1) = p2) (h3 : IntKind.i64.wrap (2 * column) = p3) (h4 : IntKind.i64.wrap (p2 + p3) = p4) : p4 % 16384 = (base + 64 * line + 2 * column) % 16384 := by
  have e1 := wrap_mod (64 * line)
  have e2 := wrap_mod (base + p1)
  have e3 := wrap_mod (2 * column)
  have e4 := wrap_mod (p2 + p3)
  rw [h1] at e1; rw [h2] at e2; rw [h3] at e3; rw [h4] at e4
  omega
theorem ent_sum (base line column B L C q : Int) (hB : base % 16384 = B) (hL : line % 16384 = L) (hC : column % 16384 = C) (hq : B + 64 * L + 2 * C = q) : (base + 64 * line + 2 * column) % 16384 = q % 16384 := by omega
set_option maxHeartbeats 800000 in
theorem entry_at (a : Option Addr) (n cap : Nat) (xs : Nat → Nat) (base line column B L C q : Int) (k0 k1 b0 b1 e h : Nat) (hB : Hid (base % 16384 = B)) (hL : Hid (line % 16384 = L)) (hC : Hid (column % 16384 = C)) (hq : Hid (B + 64 * L + 2 * C = q)) (hk0 : Hid (q % 16384 = (k0 : Int))) (hk1 : Hid ((q + 1) % 16384 = (k1 : Int))) (hb0 : Hid (vget n xs k0 = b0)) (hb1 : Hid (vget n xs k1 = b1)) (he : Hid ((b0 + 256 * b1) % 512 = e)) (hh : Hid ((b0 + 256 * b1) / 512 % 16 = h)) (w : World) (hV : ByteRow w a n xs) :
    Calls Try.prog 45 #[.slice a n cap, .int .i64 base, .int .i64 line, .int .i64 column] w fun e_ w' => e_ = .returned (.tuple #[.int .i64 (e : Int), .int .u8 (h : Int)]) ∧ w = w' := by
  have B0 : b0 < 256 := by rw [← hb0.out]; exact vget_lt hV _
  have B1 : b1 < 256 := by rw [← hb1.out]; exact vget_lt hV _
  obtain ⟨p1, hp1⟩ : ∃ p, IntKind.i64.wrap (64 * line) = p := ⟨_, rfl⟩
  obtain ⟨p2, hp2⟩ : ∃ p, IntKind.i64.wrap (base + p1) = p := ⟨_, rfl⟩
  obtain ⟨p3, hp3⟩ : ∃ p, IntKind.i64.wrap (2 * column) = p := ⟨_, rfl⟩
  obtain ⟨p4, hp4⟩ : ∃ p, IntKind.i64.wrap (p2 + p3) = p := ⟨_, rfl⟩
  obtain ⟨p5, hp5⟩ : ∃ p, IntKind.i64.wrap (p4 + 1) = p := ⟨_, rfl⟩
  have K0 : Hid (p4 % 16384 = (k0 : Int)) := by
    show _ = _
    exact (ent_mod base line column p1 p2 p3 p4 hp1 hp2 hp3 hp4).trans ((ent_sum base line column B L C q hB.out hL.out hC.out hq.out).trans hk0.out)
  have K1 : Hid (p5 % 16384 = (k1 : Int)) := by
    show _ = _
    have e1 := (ent_mod base line column p1 p2 p3 p4 hp1 hp2 hp3 hp4).trans (ent_sum base line column B L C q hB.out hL.out hC.out hq.out)
    rw [← hp5, wrap_mod, ← hk1.out]
    omega
  obtain ⟨m, hm⟩ : ∃ m : Nat, b0 + 256 * b1 = m := ⟨_, rfl⟩
  have M0 : (b0 : Int) + 256 * (b1 : Int) = (m : Int) := by omega
  have M1 : (m : Int) < 65536 := by omega
  have M2 : Hid ((m : Int) % 512 = (e : Int)) := by show _ = _; have := he.out; omega
  have M3 : bits .and .i64 ((m : Int) / 512) 15 = (h : Int) := (i64_mask ((m : Int) / 512) 4 15 16 (by decide) (by decide) (by decide)).trans (by have := hh.out; omega)
  have M5 : IntKind.u8.wrap (h : Int) = (h : Int) := by rw [IntKind.wrap_u8]; have := hh.out; omega
  clear hm hq hk0 hk1 hB hL hC
  go_enter Try.func45, Try.ntmps45
  go_wp2_with (first | (go_at_call 52; (with_reducible refine (mod_512 (m : Int) e M2 _).mono ?_); rintro e w' ⟨rfl, rfl⟩) | (go_at_call 49; (with_reducible refine (at_at a n cap xs p4 k0 b0 K0 hb0 _ hV).mono ?_); rintro e w' ⟨rfl, rfl⟩) | (go_at_call 49; (with_reducible refine (at_at a n cap xs p5 k1 b1 K1 hb1 _ hV).mono ?_); rintro e w' ⟨rfl, rfl⟩))
  go_ret2
  exact ⟨rfl, rfl⟩
set_option maxHeartbeats 800000 in
theorem rentry_at (a : Option Addr) (n cap : Nat) (xs : Nat → Nat) (base line column B L C q : Int) (k0 k1 b0 b1 e h : Nat) (hB : Hid (base % 16384 = B)) (hL : Hid (line % 16384 = L)) (hC : Hid (column % 16384 = C)) (hq : Hid (B + 64 * L + 2 * C = q)) (hk0 : Hid (q % 16384 = (k0 : Int))) (hk1 : Hid ((q + 1) % 16384 = (k1 : Int))) (hb0 : Hid (vget n xs k0 = b0)) (hb1 : Hid (vget n xs k1 = b1)) (he : Hid ((b0 + 256 * b1) % 512 = e)) (hh : Hid ((b0 + 256 * b1) / 512 % 16 = h)) (w : World) (hV : ByteRow w a n xs) :
    Calls Try.prog 28 #[.slice a n cap, .int .i64 base, .int .i64 line, .int .i64 column] w fun e_ w' => e_ = .returned (.tuple #[.int .i64 (e : Int), .int .u8 (h : Int)]) ∧ w = w' := by
  have eq := hq.out
  have X0 : 0 ≤ B ∧ B < 16384 ∧ 0 ≤ L ∧ L < 16384 ∧ 0 ≤ C ∧ C < 16384 := by have := hB.out; have := hL.out; have := hC.out; omega
  obtain ⟨X1, X2, X3, X4, X5, X6⟩ := X0
  have X7 : 0 ≤ q ∧ q ≤ 1100000 := by omega
  obtain ⟨X8, X9⟩ := X7
  have B0 : b0 < 256 := by rw [← hb0.out]; exact vget_lt hV _
  have B1 : b1 < 256 := by rw [← hb1.out]; exact vget_lt hV _
  obtain ⟨m, hm⟩ : ∃ m : Nat, b0 + 256 * b1 = m := ⟨_, rfl⟩
  have M0 : (b0 : Int) + 256 * (b1 : Int) = (m : Int) := by omega
  have M1 : (m : Int) < 65536 := by omega
  have M2 : (m : Int).tmod 512 = (e : Int) := by rw [Int.tmod_eq_emod_of_nonneg (by omega)]; have := he.out; omega
  have M3 : (m : Int) / 512 % 16 = (h : Int) := by have := hh.out; omega
  have M5 : IntKind.u8.wrap (h : Int) = (h : Int) := by rw [IntKind.wrap_u8]; have := hh.out; omega
  clear hm hq
  go_enter Try.func28, Try.ntmps28
  go_wp2_with (first | (go_at_call 42; (with_reducible refine (rmod_at base 16384 B (by decide) (by decide) hB _).mono ?_); rintro e w' ⟨rfl, rfl⟩) | (go_at_call 42; (with_reducible refine (rmod_at line 16384 L (by decide) (by decide) hL _).mono ?_); rintro e w' ⟨rfl, rfl⟩) | (go_at_call 42; (with_reducible refine (rmod_at column 16384 C (by decide) (by decide) hC _).mono ?_); rintro e w' ⟨rfl, rfl⟩) | (go_at_call 39; (with_reducible refine (rat_at a n cap xs q k0 b0 hk0 hb0 _ hV).mono ?_); rintro e w' ⟨rfl, rfl⟩) | (go_at_call 39; (with_reducible refine (rat_at a n cap xs (q + 1) k1 b1 hk1 hb1 _ hV).mono ?_); rintro e w' ⟨rfl, rfl⟩))
  go_ret2
  exact ⟨rfl, rfl⟩
section
variable {P : Program} {W0 w w' : World} {l l' : List (Nat × TypeId × List Value)} {ops : Array Oper} {rest : List Oper} {o : Oper} {a : Act} {Q : Exit → Act → World → Prop}
theorem own_get {ty t : TypeId} {x : Operand} {g off : Nat} {cs : List Value} {v : Value} (HM : Hid (Own W0 w l)) (ho : o.op = .load ty x) (hx : a.eval x = .pointer (some ⟨g, off, none⟩)) (hty : One P ty)
    (hs : Sel l g t cs) (hd : cs[off]? = some v) (hw : Region.wanted o (yielded ops a.tmps) = true)
    (h : wpList P ops Q rest (a.put o.dst v) w) : wpList P ops Q (o :: rest) a w := by
  refine wpList_wanted hw fun K hK => ?_
  have hc : w.cell? ⟨g, off, none⟩ = some v := by rw [(HM.out.at_ hs).at_]; exact hd
  unfold Oper.wp execOp
  simp only [ho, hx, Instr.loadAt, Instr.sureAddr, Sem.run_bind, Sem.run_pure, Result.andThen_ok, run_loadVar_one w g off ty v hc hty]
  exact hK _ _ h
end
section
variable {P : Program} {W0 w : World} {l : List (Nat × TypeId × List Value)} {a : Act} {K : Act → Prop} {dst : Option Tmp} {ty0 : TypeId} {pos : String} {aft : Array Edge} {gd : Option (Nat × Bool)} {u : Value}
theorem quiet_get {ty t : TypeId} {x : Operand} {g off : Nat} {cs : List Value} (hx : a.eval x = .pointer (some ⟨g, off, none⟩)) (hty : One P ty)
    (hs : Sel l g t cs) (hd : cs[off]? = some u)
    (h : Oper.quiet P ⟨dst, .move (.const u), ty0, pos, aft, gd⟩ a (fun w' => Own W0 w' l) K) : Oper.quiet P ⟨dst, .load ty x, ty0, pos, aft, gd⟩ a (fun w' => Own W0 w' l) K := by
  refine quiet_as (fun w hC => ?_) h
  have hc : w.cell? ⟨g, off, none⟩ = some u := by rw [(hC.at_ hs).at_]; exact hd
  unfold execOp
  simp only [hx, Instr.loadAt, Instr.sureAddr, Sem.run_bind, Sem.run_pure, Result.andThen_ok, run_loadVar_one w g off ty u hc hty]
end
theorem own_index {P : Program} {ops : Array Oper} {rest : List Oper} {o : Oper} {a : Act} {w : World} {Q : Exit → Act → World → Prop} {ty : TypeId} {x y : Operand} {v u r : Value} (ho : o.op = .index ty x y) (hx : a.eval x = v) (hy : a.eval y = u)
    (hrun : ∀ w, (Instr.index ty v u).run P w = .ok r w) (hw : Region.wanted o (yielded ops a.tmps) = true) (h : wpList P ops Q rest (a.put o.dst r) w) : wpList P ops Q (o :: rest) a w := by
  refine wpList_wanted hw fun K hK => ?_
  unfold Oper.wp execOp
  simp only [ho, hx, hy, Sem.run_bind, hrun, Result.andThen_ok]
  exact hK _ _ h
section
variable {P : Program}
def SelfEq (P : Program) (d : Nat) (e : TypeId) (v : Value) : Prop := ∀ w, (Op.equalIn d e v v).run P w = .ok true w
theorem self_u8 {e : TypeId} (d : Nat) (h : P.underlying e = some (.int .u8)) (a : Int) : SelfEq P (d + 1) e (.int .u8 a) := fun w => by
  rw [run_equalIn_int w d e .u8 .u8 a a h]; simp
theorem self_bool {e : TypeId} (d : Nat) (h : P.underlying e = some .bool) (a : Bool) : SelfEq P (d + 1) e (.bool a) := fun w => by
  rw [run_equalIn_bool' w d e a a h]; simp
theorem self_array {t e : TypeId} {len d : Nat} {i0 : TypeInfo} (xs : Array Value) (ht : P.underlying t = some (.array len e)) (he : P.plainKey e = true) (hi : P.info? e = some i0) (hc : P.cellsOf e = 1)
    (hx : ∀ i, i < len → ∃ v, xs[i]? = some v ∧ SelfEq P d e v) : SelfEq P (d + 1) t (.agg xs) := fun w => by
  unfold Op.equalIn
  simp only [Sem.run_bind, run_underlying ht, Result.andThen_ok, run_sizeOf w hi, hc, Nat.mul_one, Std.Legacy.Range.forIn_eq_forIn_range', Std.Legacy.Range.size, Nat.sub_zero, Nat.add_one_sub_one, Nat.div_one]
  have main : ∀ (k s : Nat), s + k ≤ len → ((forIn (List.range' s k) ((none : Option Bool), ()) fun i _ => do
      let a ← part e xs i
      let b ← part e xs i
      let r ← Op.equalIn d e a b
      if (!r) = true then pure (ForInStep.done (some false, ())) else pure (ForInStep.yield (none, ())) : Sem (Option Bool × Unit))).run P w = .ok (none, ()) w := by
    intro k
    induction k with
    | zero => intro s _; simp
    | succ k ih =>
      intro s hs
      obtain ⟨v, hv, hq⟩ := hx s (by omega)
      rw [List.range'_succ, List.forIn_cons]
      simp only [Sem.run_bind, run_part_plain w he hv, Result.andThen_ok, hq w, Bool.not_true, Bool.false_eq_true, if_false, Sem.run_pure]
      exact ih (s + 1) (by omega)
  have m := main len 0 (by omega)
  have e1 : (len + 0) / 1 = len := by omega
  first
    | (rw [m]; rfl)
    | (simp only [Nat.add_zero, Nat.div_one] at m ⊢; rw [m]; rfl)
theorem self_fields {d : Nat} (xs : Array Value) : ∀ (fs : List Field), (∀ f ∈ fs, ∃ v, (∀ w, (part f.type xs f.offset).run P w = .ok v w) ∧ SelfEq P d f.type v) → ∀ w, (Op.eqFields d xs xs fs).run P w = .ok true w
  | [], _, w => by simp [Op.eqFields]
  | f :: fs, h, w => by
    obtain ⟨v, hv, hq⟩ := h f (by simp)
    have ih := self_fields xs fs (fun g hg => h g (by simp [hg])) w
    unfold Op.eqFields
    split
    · simp only [Sem.run_bind, hv w, Result.andThen_ok, hq w, Bool.not_true, Bool.false_eq_true, if_false]
      exact ih
    · exact ih
theorem self_struct {t : TypeId} {d : Nat} (xs : Array Value) (ht : P.underlying t = some (.struct (P.fieldsOf t))) (hp : P.stoodInHeld t = false)
    (h : ∀ f ∈ (P.fieldsOf t).toList, ∃ v, (∀ w, (part f.type xs f.offset).run P w = .ok v w) ∧ SelfEq P d f.type v) : SelfEq P (d + 1) t (.agg xs) := fun w => by
  rw [run_equalIn_struct w d t xs xs ht hp]
  exact self_fields xs _ h w
theorem part_array {t e : TypeId} {len : Nat} {i0 : TypeInfo} (xs : Array Value) (off n : Nat) (ht : P.underlying t = some (.array len e)) (hi : P.info? t = some i0) (hc : P.cellsOf t = n) (w : World) : (part t xs off).run P w = .ok (.agg (xs.extract off (off + n))) w := by
  simp [part, isAgg, run_underlying ht, run_sizeOf w hi, hc]
end
def gcells (f : Nat → Nat) (g : Nat → Bool) : List Value := (List.range 256).map (fun x => .int .u8 (f x : Int)) ++ (List.range 256).map fun x => .bool (g x)
abbrev gV (f : Nat → Nat) (g : Nat → Bool) : Value := .agg (gcells f g).toArray
theorem gcells_length (f : Nat → Nat) (g : Nat → Bool) : (gcells f g).length = 512 := by simp [gcells]
theorem gcells_color (f : Nat → Nat) (g : Nat → Bool) (x : Nat) (h : x < 256) : (gcells f g)[x]? = some (.int .u8 (f x : Int)) := by
  unfold gcells
  rw [List.getElem?_append_left (by simpa using h)]
  simp [h]
theorem gcells_front (f : Nat → Nat) (g : Nat → Bool) (x : Nat) (h : x < 256) : (gcells f g)[256 + x]? = some (.bool (g x)) := by
  unfold gcells
  rw [List.getElem?_append_right (by simp)]
  simp [h]
theorem aggG : Agg Try.prog 51 512 := ⟨⟨_, Try.underlying51, rfl⟩, by kernel_rfl⟩
theorem zeroG : Zero Try.prog 51 (gcells (fun _ => 0) (fun _ => false)) := ⟨gV (fun _ => 0) (fun _ => false), fun _ => by kernel_rfl, rfl⟩
end Go.Proofs.Ytijjigacmmhloaa
