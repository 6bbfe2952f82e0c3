/-
  A slice of bytes that is only read, wherever it lies; what is at a place of it.
-/
import Derived.Test.YtcefgcoibppdaaaByteRow
import Derived.Test.YtcefgcoibppdaaaOwn
import Derived.OwnWalk
import Derived.Laws.OwnMore
namespace Go.Proofs.Ytcefgcoibppdaaa
open Go.RowKit

theorem ByteRow.under {w w' : World} {a : Option Addr} {n : Nat} {xs : Nat → Nat} (h : ByteRow w a n xs) (hb : Below w.heap.size w w') : ByteRow w' a n xs := by
  intro hn
  obtain ⟨g, o, rfl, hg, hc⟩ := h hn
  exact ⟨g, o, rfl, Nat.lt_of_lt_of_le hg hb.size, fun i hi => ⟨(hb.cell (p := ⟨g, o + i, none⟩) hg).trans (hc i hi).1, (hc i hi).2⟩⟩
theorem ByteRow.nil (w : World) (a : Option Addr) (xs : Nat → Nat) : ByteRow w a 0 xs := fun h => absurd h (by omega)
/-- the byte at a place: nothing behind the end -/
def vget (n : Nat) (xs : Nat → Nat) (k : Nat) : Nat := if k < n then xs k else 0
theorem vget_lt {w : World} {a : Option Addr} {n : Nat} {xs : Nat → Nat} (h : ByteRow w a n xs) (k : Nat) : vget n xs k < 256 := by
  unfold vget
  split
  · rename_i hk
    obtain ⟨g, o, -, -, hc⟩ := h (by omega)
    exact (hc k hk).2
  · omega
theorem oneInt : One Try.prog 3 := ⟨⟨_, Try.underlying3, rfl⟩, by kernel_rfl⟩
theorem oneBool : One Try.prog 4 := ⟨⟨_, Try.underlying4, rfl⟩, by kernel_rfl⟩
theorem oneU8 : One Try.prog 5 := ⟨⟨_, Try.underlying5, rfl⟩, by kernel_rfl⟩
theorem oneBs : One Try.prog 22 := ⟨⟨_, Try.underlying22, rfl⟩, by kernel_rfl⟩
theorem Own.fin {W0 w : World} {l : List (Nat × TypeId × List Value)} (h : Hid (Own W0 w l)) : Below W0.heap.size W0 w := h.out.below
section
variable {W0 w : World} {l : List (Nat × TypeId × List Value)} {ops : Array Oper} {rest : List Oper} {o : Oper} {a : Act} {Q : Exit → Act → World → Prop}
/-- makeSlice, of the call's own -/
theorem own_makes {t e : TypeId} {x y : Operand} {u v : Value} {n m : Nat} {cs : List Value} (HM : Hid (Own W0 w l)) (ho : o.op = .makeSlice t x y) (hx : a.eval x = u) (hy : a.eval y = v)
    (hr : ∀ w, (Instr.makeSlice t u v).run Try.prog w = .ok (.slice (some ⟨w.heap.size, 0, none⟩) n m) (w.alloc (.cells cs.toArray e))) (hw : Region.wanted o (yielded ops a.tmps) = true)
    (h : ∀ w' g, Hid (Own W0 w' ((g, e, cs) :: l)) → wpList Try.prog ops Q rest (a.put o.dst (.slice (some ⟨g, 0, none⟩) n m)) w') : wpList Try.prog ops Q (o :: rest) a w := by
  refine wpList_wanted hw fun K hK => ?_
  unfold Oper.wp execOp
  simp only [ho, Sem.run_bind, hx, hy, hr]
  exact hK _ _ (h _ _ (HM.out.new e cs))
end
/-- bytes as cells -/
def b8 (m : Nat) (xs : Nat → Nat) : List Value := (List.range m).map fun i => .int .u8 (xs i : Int)
theorem b8_length (m : Nat) (xs : Nat → Nat) : (b8 m xs).length = m := by simp [b8]
theorem b8_get (m : Nat) (xs : Nat → Nat) (i : Nat) (h : i < m) : (b8 m xs)[i]? = some (.int .u8 (xs i : Int)) := by simp [b8, h]
def upd (xs : Nat → Nat) (k v : Nat) : Nat → Nat := fun i => if i = k then v else xs i
theorem b8_set (m : Nat) (xs : Nat → Nat) (k v : Nat) : (b8 m xs).set k (.int .u8 (v : Int)) = b8 m (upd xs k v) := by
  apply List.ext_getElem?
  intro i
  rw [List.getElem?_set]
  by_cases hi : i < m
  · rw [b8_get m _ i hi, b8_get m _ i hi, b8_length]
    unfold upd
    by_cases hk : k = i
    · subst hk; simp [hi]
    · rw [if_neg hk, if_neg (fun h => hk h.symm)]
  · have e1 : (b8 m xs)[i]? = none := by rw [List.getElem?_eq_none_iff, b8_length]; omega
    have e2 : (b8 m (upd xs k v))[i]? = none := by rw [List.getElem?_eq_none_iff, b8_length]; omega
    rw [e1, e2, b8_length]
    split
    · split <;> first | rfl | omega
    · rfl
theorem made_bytes (n : Nat) (h : n ≤ 2147483647) (w : World) :
    (Instr.makeSlice 22 (.int .i64 (n : Int)) (.int .i64 (n : Int))).run Try.prog w = .ok (.slice (some ⟨w.heap.size, 0, none⟩) n n) (w.alloc (.cells (b8 n (fun _ => 0)).toArray 5)) := by
  obtain ⟨i0, hi, hz0, hz1, hz2⟩ := info_parts (show (Try.prog.info? 5).map (fun i => (i.zero, i.size, i.bytes)) = some (some (.int .u8 0), 1, 1) by kernel_rfl)
  have hr := run_make (P := Try.prog) w 22 5 i0 (.int .u8 0) Try.underlying22 hi hz0 .i64 .i64 (n : Int) (n : Int) (by omega) (by omega) (by rw [hz2]; omega) (by omega)
  rw [hr]
  rw [Int.toNat_natCast, hz1, Nat.mul_one]
  congr 3
  apply Array.ext'
  rw [show (Value.int IntKind.u8 0).cells = #[Value.int IntKind.u8 0] from rfl, toList_madeCells_one]
  apply List.ext_getElem?
  intro i
  rw [List.getElem?_replicate]
  by_cases hi : i < n
  · rw [if_pos hi]
    show some (Value.int IntKind.u8 0) = (b8 n fun _ => 0)[i]?
    rw [b8_get n _ i hi]; rfl
  · rw [if_neg hi, eq_comm, List.getElem?_eq_none_iff]
    show (b8 n _).length ≤ i
    rw [b8_length]; omega
theorem Own.plus {W0 w w' : World} {l : List (Nat × TypeId × List Value)} {g : Nat} {t : TypeId} {cs : List Value} (h : Own W0 w l) (hb : Below w.heap.size w w') (hg : w.heap.size ≤ g) (hW : Whole w' g t cs) : Own W0 w' ((g, t, cs) :: l) := by
  have h' := h.call hb
  refine ⟨h'.below, ?_, ?_⟩
  · intro e he
    rcases List.mem_cons.1 he with rfl | he
    · exact ⟨Nat.le_trans h.below.size hg, hW⟩
    · exact h'.whole e he
  · refine .cons (fun e he => ?_) h'.apart
    have := (h.whole e he).2.inside
    show g ≠ e.1
    omega
theorem Own.swap2 {W0 w : World} {l : List (Nat × TypeId × List Value)} {x y : Nat × TypeId × List Value} (h : Own W0 w (x :: y :: l)) : Own W0 w (y :: x :: l) :=
  ⟨h.below, fun e he => h.whole e ((List.Perm.swap y x l).mem_iff.2 he), (List.Perm.pairwise_iff (fun h => Ne.symm h) (List.Perm.swap y x l)).1 h.apart⟩
/-- a byte is stored into the first block -/
theorem own_b8 {W0 w : World} {l : List (Nat × TypeId × List Value)} {ops : Array Oper} {rest : List Oper} {o : Oper} {a : Act} {Q : Exit → Act → World → Prop} {ty t : TypeId} {x y : Operand} {g m i v : Nat} {xs : Nat → Nat} (HM : Hid (Own W0 w ((g, t, b8 m xs) :: l))) (ho : o.op = .store ty x y) (hx : a.eval x = .pointer (some ⟨g, i, none⟩)) (hy : a.eval y = .int .u8 (v : Int))
    (hty : One Try.prog ty) (hi : i < m) (hw : Region.wanted o (yielded ops a.tmps) = true) (hd : o.dst = none) (h : ∀ w', Hid (Own W0 w' ((g, t, b8 m (upd xs i v)) :: l)) → wpList Try.prog ops Q rest a w') : wpList Try.prog ops Q (o :: rest) a w := by
  refine own_put (l' := (g, t, (b8 m xs).set i (.int .u8 (v : Int))) :: l) HM ho hx hy .z .z hty.size rfl hw (by rw [b8_length]; exact hi) hd fun w' HM' => h w' ?_
  rw [b8_set] at HM'
  exact HM'
theorem upd_lt {xs : Nat → Nat} (hx : ∀ i, xs i < 256) (k : Nat) {v : Nat} (hv : v < 256) : ∀ i, upd xs k v i < 256 := by
  intro i; unfold upd; split
  · exact hv
  · exact hx i
/-- a block of the call's own, read as a slice -/
theorem Own.byteRow {W0 w : World} {l : List (Nat × TypeId × List Value)} {g : Nat} {t : TypeId} {n : Nat} {xs : Nat → Nat} (h : Own W0 w l) (hs : Sel l g t (b8 n xs)) (hx : ∀ i, xs i < 256) : ByteRow w (some ⟨g, 0, none⟩) n xs := by
  intro _
  have hw := (h.whole _ hs.mem).2
  exact ⟨g, 0, rfl, hw.inside, fun i hi => ⟨by rw [Nat.zero_add, hw.at_, b8_get n xs i hi], hx i⟩⟩

end Go.Proofs.Ytcefgcoibppdaaa
