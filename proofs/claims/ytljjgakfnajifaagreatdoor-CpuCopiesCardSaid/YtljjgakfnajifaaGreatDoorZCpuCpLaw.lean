import Derived.Test.YtljjgakfnajifaaGreatDoorZCpuAw
import Derived.Deep.Cut
import Derived.Deep.CutRange
import Derived.ProofKit
import Derived.OpenShut
import Derived.ChangeOld
import Derived.Below
import Derived.Lib.SmallJoins
import Derived.ChangeArms
import Derived.LaidMore
import Derived.Stop.Joined
import Derived.Lib.LaidTab
import Derived.MakeChecks
import Derived.SevenTiedAt
import Derived.Test.YtljjgakfnajifaaGreatDoorTie
import Derived.Test.YtljjgakfnajifaaGreatDoorCards
namespace Go.Proofs.YtljjgakfnajifaaGreatDoor
open Go.RowKit
def bl (n : Nat) (f : Nat → Nat) : List Value := (List.range n).map fun i => .int .u8 (f i : Int)
theorem bl_length (n : Nat) (f : Nat → Nat) : (bl n f).length = n := by simp [bl]
theorem bl_get (n : Nat) (f : Nat → Nat) (i : Nat) (h : i < n) : (bl n f)[i]? = some (.int .u8 (f i : Int)) := by
  unfold bl; rw [List.getElem?_map, List.getElem?_range h]; rfl
theorem bl_ext {n : Nat} {f g : Nat → Nat} (h : ∀ i, i < n → f i = g i) : bl n f = bl n g := by
  unfold bl; exact List.map_congr_left fun i hi => by rw [h i (List.mem_range.1 hi)]
theorem bl_set (n : Nat) (f : Nat → Nat) (a v : Nat) : (bl n f).set a (.int .u8 (v : Int)) = bl n (upd f a v) := by
  apply List.ext_getElem?
  intro i
  rw [List.getElem?_set]
  by_cases hi : i < n
  · rw [bl_get n _ i hi, bl_get n _ i hi]
    by_cases h : a = i
    · subst h; simp [bl_length, hi, upd]
    · have : ¬ i = a := fun e => h e.symm
      simp [h, upd, this]
  · have e1 : (bl n f)[i]? = none := by rw [List.getElem?_eq_none]; rw [bl_length]; omega
    have e2 : (bl n (upd f a v))[i]? = none := by rw [List.getElem?_eq_none]; rw [bl_length]; omega
    rw [e1, e2]
    by_cases h : a = i
    · subst h; simp [bl_length, hi]
    · simp [h]
theorem bl_221 (n : Nat) (f : Nat → Nat) (a : Nat) : (bl n f).set a (.int .u8 221) = bl n (upd f a 221) := bl_set n f a 221
theorem bl_253 (n : Nat) (f : Nat → Nat) (a : Nat) : (bl n f).set a (.int .u8 253) = bl n (upd f a 253) := bl_set n f a 253
theorem bl_46 (n : Nat) (f : Nat → Nat) (a : Nat) : (bl n f).set a (.int .u8 46) = bl n (upd f a 46) := bl_set n f a 46
theorem bl_zero (n : Nat) : bl n (fun _ => 0) = List.replicate n (Value.int .u8 0) := by
  apply List.ext_getElem?
  intro i
  by_cases h : i < n
  · rw [bl_get n _ i h, List.getElem?_replicate, if_pos h]; rfl
  · rw [List.getElem?_replicate, if_neg h, List.getElem?_eq_none (by rw [bl_length]; omega)]
def fillB (i : Nat) : Nat := if i % 3 = 1 then 253 else 221
def fillTo (k i : Nat) : Nat := if i < k then fillB i else 0
theorem fill_a (k : Nat) (h : k % 3 = 1) : upd (upd (fillTo k) k 221) k 253 = fillTo (k + 1) := by
  funext i
  unfold upd fillTo
  by_cases hi : i = k
  · rw [if_pos hi, if_pos (by omega), hi]; exact (if_pos h).symm
  · rw [if_neg hi, if_neg hi]
    by_cases h2 : i < k
    · rw [if_pos h2, if_pos (by omega)]
    · rw [if_neg h2, if_neg (by omega)]
theorem fill_b (k : Nat) (h : ¬ k % 3 = 1) : upd (fillTo k) k 221 = fillTo (k + 1) := by
  funext i
  unfold upd fillTo
  by_cases hi : i = k
  · rw [if_pos hi, if_pos (by omega), hi]; exact (if_neg h).symm
  · rw [if_neg hi]
    by_cases h2 : i < k
    · rw [if_pos h2, if_pos (by omega)]
    · rw [if_neg h2, if_neg (by omega)]
theorem pfx_all (many v n : Nat) (last : Bool) (hm : 1 ≤ many) (hn : n = many + 2) (f : Nat → Nat) (hf : f = cond last (upd (upd (fillTo n) (many - 1) 221) (many - 1) 253) (upd (fillTo n) (many - 1) 221)) : bl n (upd (upd f many 46) (many + 1) v) = bl n (pfxB many last v) := by
  refine bl_ext fun i hi => ?_
  unfold pfxB upd
  by_cases h1 : i = many + 1
  · rw [if_pos h1, if_pos h1]
  · rw [if_neg h1, if_neg h1]
    by_cases h2 : i = many
    · rw [if_pos h2, if_pos h2]
    · rw [if_neg h2, if_neg h2]
      subst hf
      by_cases h3 : i + 1 = many
      · rw [if_pos h3]
        have h4 : i = many - 1 := by omega
        cases last
        · show upd _ _ _ i = 221; rw [h4, upd_at]
        · show upd _ _ _ i = 253; rw [h4, upd_at]
      · rw [if_neg h3]
        have h4 : i ≠ many - 1 := by omega
        have h5 : fillTo n i = fillB i := if_pos hi
        cases last
        · show upd _ _ _ i = _; rw [upd_ne _ _ _ _ h4, h5]; rfl
        · show upd _ _ _ i = _; rw [upd_ne _ _ _ _ h4, upd_ne _ _ _ _ h4, h5]; rfl
theorem bl_reads {W0 : World} {l : Blocks} {g n : Nat} (f : Nat → Nat) (h8 : ∀ i, f i < 256) : Reads W0 ((g, 5, bl n f) :: l) (some ⟨g, 0, none⟩) ((List.range n).map f) := by
  have h := reads_own (W0 := W0) (l := l) (g := g) (t := 5) ((List.range n).map f) (by intro y hy; obtain ⟨i, _, rfl⟩ := List.mem_map.1 hy; exact h8 i)
  rwa [List.map_map] at h
theorem pfxB_lt (many : Nat) (last : Bool) (v : Nat) (hv : v < 256) (i : Nat) : pfxB many last v i < 256 := by
  unfold pfxB; split; exact hv; split; decide; split; (cases last <;> decide); split; decide; decide
theorem pfx_mem (many : Nat) (last : Bool) (v n i : Nat) (hn : n = many + 2) (hm : many ≤ 100) (hi : i < n) : lay (bas 0) 0 ((List.range n).map (pfxB many last v)) i = pfxB many last v i := by
  rw [lay_zero _ _ _ (by omega) (by simp; omega), if_pos (by simpa using hi), List.getD_eq_getElem?_getD, List.getElem?_map, List.getElem?_range hi]
  rfl
theorem pfx_fits (many : Nat) (last : Bool) (v k : Nat) (hv : v < 256) (hk : k < 65536) : (pfxR many last v k).Fits := by
  refine { rg0_fits with ix := (by show 4369 < 65536; decide), iy := (by show 8738 < 65536; decide), pc := hk, r := (by show k % 128 < 256; omega), px := ?_ }
  show (if k = 0 then 0 else pfxB many last v (k - 1)) < 256
  split
  · decide
  · exact pfxB_lt _ _ _ hv _
theorem inter_pfx {W0 w : World} {b n : Nat} {l : Blocks} {r : Rg} {u : U} (hp : Hid (¬ r.px = 0)) (hr : Hid r.Fits) (h : Hid (Bx W0 w b u l (n + 4))) :
    Calls Tryz.prog 15 #[r.v, .iface 28 (.pointer (some ⟨b, 0, none⟩)), .bool true, .bool true] w fun e w' => e = .returned (.tuple #[r.v, .int .i64 0]) ∧ Hid (Bx W0 w' b u l n) := by
  have e0 : Nat.beq r.px 0 = false := by rw [← Bool.not_eq_true, Nat.beq_eq]; exact hp.out
  have e1 : Cs.takes ⟨r, 0, u⟩ true true = false := by show and (Nat.beq r.px 0) _ = false; rw [e0]; rfl
  have e2 : Cs.inter ⟨r, 0, u⟩ true true = ⟨r, 0, u⟩ := by unfold Cs.inter; rw [e1]; rfl
  have e3 : Cs.interC ⟨r, 0, u⟩ true true = 0 := by unfold Cs.interC; rw [e1]; rfl
  refine (inter_any r u true true hr.out h).mono fun e w' ⟨he, _, hb⟩ => ⟨?_, ?_⟩
  · rw [he, e2, e3]; rfl
  · rw [e2] at hb; exact hb
theorem build_pfx0 (w : World) : (Instr.build 25 #[(18, .bool true), (9, .int .u16 4369), (10, .int .u16 8738)]).run Tryz.prog w = .ok (pfxR 0 false 0 0).v w := by kernel_rfl
theorem build_pfx (many : Nat) (last : Bool) (v : Nat) (w : World) : (Instr.build 25 #[(18, .bool true), (9, .int .u16 4369), (10, .int .u16 8738)]).run Tryz.prog w = .ok (pfxR many last v 0).v w := build_pfx0 w
theorem own_built3 {P : Program} {w : World} {ops : Array Oper} {rest : List Oper} {o : Oper} {a : Act} {Q : Exit → Act → World → Prop} {t : TypeId} {i j k : Nat} {x y z : Operand} {vx vy vz v : Value} (hx : ∀ w, (Instr.build t #[(i, vx), (j, vy), (k, vz)]).run P w = .ok v w)
    (ho : o.op = .build t #[(i, x), (j, y), (k, z)]) (h1 : a.eval x = vx) (h2 : a.eval y = vy) (h3 : a.eval z = vz) (hw : Region.wanted o (yielded ops a.tmps) = true) (h : wpList P ops Q rest (a.put o.dst v) w) : wpList P ops Q (o :: rest) a w :=
  own_built hx ho (by simp [h1, h2, h3]) hw h
theorem box_pfx {W0 w : World} {l : Blocks} {g k cap : Nat} (m : Nat) (last : Bool) (v : Nat) (hk : Hid (k = m + 2)) (hm : m ≤ 100) (hv : v < 256) (h : Hid (Own W0 w ((g, 5, bl k (pfxB m last v)) :: l))) :
    Calls Tryz.prog 14 #[.int .u16 0, .slice (some ⟨g, 0, none⟩) k cap, .int .u8 0] w fun e w' => ∃ b, e = .returned (.pointer (some ⟨b, 0, none⟩)) ∧ Hid (Bx W0 w' b ⟨lay (bas 0) 0 ((List.range k).map (pfxB m last v)), []⟩ ((g, 5, bl k (pfxB m last v)) :: l) 1000000) := by
  have hk' := hk.out
  have h' := box_at 0 0 cap ((List.range k).map (pfxB m last v)) (some ⟨g, 0, none⟩) (by decide) (by rw [List.length_map, List.length_range]; omega) (Lib.hid (bl_reads _ (pfxB_lt m last v hv))) h
  rw [List.length_map, List.length_range] at h'
  exact h'
end Go.Proofs.YtljjgakfnajifaaGreatDoor
namespace Go.Proofs.YtljjgakfnajifaaGreatDoor
open Go.RowKit
section
variable {W0 w w' : World} {l L R : Blocks} {t : TypeId} {v : Value} {xs us : List Value} {n size m : Nat}
theorem Own.grows {g cap : Nat} (h : Own W0 w (L ++ R)) (hR : RowOf t size R v n xs) (hg : w.grownBy w' v.ownBlock)
    (hw' : w'.ownsRow W0.heap.size t size (.slice (some ⟨g, 0, none⟩) (n + m) cap) (n + m) (xs ++ us)) (hlie : v.ownBlock = some g ∨ g = w.heap.size) :
    ∃ R', RowOf t size R' (.slice (some ⟨g, 0, none⟩) (n + m) cap) (n + m) (xs ++ us) ∧ Own W0 w' (L ++ R') := by
  have hrow : ∀ k, v.ownBlock = some k → ∃ cur, R = [(k, t, cur)] := by
    intro k hk
    obtain ⟨-, ⟨-, rfl, -⟩ | ⟨g, cap, cur, rfl, rfl, -⟩⟩ := hR
    · cases hk
    · cases hk; exact ⟨cur, rfl⟩
  have hlo : ∀ k, v.ownBlock = some k → W0.heap.size ≤ k := by
    intro k hk
    obtain ⟨cur, hm⟩ := hrow k hk
    exact (h.whole (k, t, cur) (by simp [hm])).1
  have hap := List.pairwise_append.1 h.apart
  have hLw : ∀ e ∈ L, W0.heap.size ≤ e.1 ∧ Whole w' e.1 e.2.1 e.2.2 ∧ e.1 ≠ g := by
    intro e he
    have hx := h.whole e (by simp [he])
    have hne : some e.1 ≠ v.ownBlock := by
      intro hk
      obtain ⟨cur, hm⟩ := hrow e.1 hk.symm
      exact hap.2.2 e he (e.1, t, cur) (by simp [hm]) rfl
    refine ⟨hx.1, hx.2.grown hg hne, ?_⟩
    rcases hlie with hlie | rfl
    · rw [hlie] at hne
      exact fun h => hne (by rw [h])
    · have := hx.2.inside
      omega
  obtain ⟨hl', ⟨h0, _⟩ | ⟨g', cap', cur, hv, hb, hw, h1, h2, h3, h4⟩⟩ := hw'
  · cases h0
  · injection hv with hv1 _ hv2
    injection hv1 with hv1
    injection hv1 with hv1
    subst hv1 hv2
    refine ⟨[(g, t, cur.toList)], ⟨hl', .inr ⟨g, cap, cur.toList, rfl, rfl, h1, h2, by simpa using h3, h4⟩⟩, h.below.trans ((Below.refl _ w).grown hg h.below.size hlo), ?_, ?_⟩
    · intro e he
      rcases List.mem_append.1 he with he | he
      · exact ⟨(hLw e he).1, (hLw e he).2.1⟩
      · obtain rfl := List.mem_singleton.1 he
        exact ⟨hb, hw⟩
    · rw [List.pairwise_append]
      refine ⟨hap.1, List.pairwise_singleton _ _, ?_⟩
      intro a ha b hb'
      obtain rfl := List.mem_singleton.1 hb'
      exact (hLw a ha).2.2
end
theorem own_grows {W0 w : World} {l : Blocks} {ops : Array Oper} {rest : List Oper} {o : Oper} {a : Act} {Q : Exit → Act → World → Prop} {gm n m : Nat} {t3 : TypeId} {L R : Blocks} {v : Value} {xs us : List Value} {s y : Operand}
    (HM : Hid (Own W0 w l)) (hp : l.Perm (L ++ R)) (hsrc : Sel l gm t3 us) (HR : RowOf 5 1 R v n xs) (hgd : o.guard = none)
    (ho : o.op = .call { callee := .builtin .append, args := #[s, y], argTypes := #[30, 30] }) (hs : a.eval s = v) (hy : a.eval y = .slice (some ⟨gm, 0, none⟩) m m) (hu : us.all (·.oneCell') = true) (hl : us.length = m) (hm : 0 < m) (hn : n + m ≤ 1000000)
    (h : ∀ gg cap w' R', RowOf 5 1 R' (.slice (some ⟨gg, 0, none⟩) (n + m) cap) (n + m) (xs ++ us) → Hid (Own W0 w' (L ++ R')) → wpList Tryz.prog ops Q rest (a.put o.dst (.slice (some ⟨gg, 0, none⟩) (n + m) cap)) w') : wpList Tryz.prog ops Q (o :: rest) a w := by
  have hi : (Tryz.prog.info? 5).map (fun i => (i.zero, i.size, i.bytes)) = some (some (.int .u8 0), 1, 1) := by kernel_rfl
  obtain ⟨i0, hi, hz0, hz1, hz2⟩ : ∃ i : TypeInfo, Tryz.prog.info? 5 = some i ∧ i.zero = some (.int .u8 0) ∧ i.size = 1 ∧ i.bytes = 1 := by
    cases hq : Tryz.prog.info? 5 with
    | none => rw [hq] at hi; simp at hi
    | some i => rw [hq] at hi; simp at hi; exact ⟨i, rfl, hi.1, hi.2.1, hi.2.2⟩
  have hO : Own W0 w (L ++ R) := HM.out.perm hp
  have hrow := HR.owns (w := w) (B := W0.heap.size) (fun e he => hO.whole e (by simp [he]))
  have hw3 := HM.out.at_ hsrc
  refine wpList_append_lies w hgd s y _ ho W0.heap.size 5 i0 (.int .u8 0) 1 1 Tryz.underlying30 hi hz0 hz1 hz2 rfl (by decide) v n xs hs hrow ⟨gm, 0, none⟩ m m us hy (by omega) ?_ (by simpa using hu) hm (by unfold maxLen; omega) (by omega) hO.below.size w.heap.size rfl ?_
  · intro j x hj
    have := hw3.at_ j
    rw [show (⟨gm, 0, none⟩ : Addr).add j = ⟨gm, j, none⟩ by unfold Addr.add; split <;> simp_all, this, ← hj]
  · intro g cap w' h1 h2 h3 _
    obtain ⟨R', hR', hO'⟩ := hO.grows HR h2 h1 h3
    exact h _ _ _ R' hR' hO'
end Go.Proofs.YtljjgakfnajifaaGreatDoor
namespace Go.Proofs.YtljjgakfnajifaaGreatDoor
open Go.RowKit
theorem box_cpy {W0 w : World} {l : Blocks} {g : Nat} (h : Hid (Own W0 w ((g, 5, [.int .u8 237, .int .u8 176]) :: l))) :
    Calls Tryz.prog 14 #[.int .u16 0, .slice (some ⟨g, 0, none⟩) 2 2, .int .u8 7] w fun e w' => ∃ b, e = .returned (.pointer (some ⟨b, 0, none⟩)) ∧ Hid (Bx W0 w' b ⟨lay (bas 7) 0 [237, 176], []⟩ ((g, 5, [.int .u8 237, .int .u8 176]) :: l) 1000000) :=
  box_at 0 7 2 [237, 176] _ (by decide) (by decide) (Lib.hid (reads_own [237, 176] (by decide))) h
theorem box_cpy_made (w : World) : (Instr.buildSlice 30 2 #[(0, .int .u8 237), (1, .int .u8 176)]).run Tryz.prog w = .ok (.slice (some ⟨w.heap.size, 0, none⟩) 2 2) (w.alloc (.cells ([.int .u8 237, .int .u8 176] : List Value).toArray 5)) := by kernel_rfl
theorem perm_back2 (A : Blocks) (x y : Nat × TypeId × List Value) : ((A ++ [x]) ++ [y]).Perm ([y, x] ++ A) := by
  have h1 : ((A ++ [x]) ++ [y]).Perm (y :: (A ++ [x])) := List.perm_append_comm (l₁ := A ++ [x]) (l₂ := [y])
  have h2 : (A ++ [x]).Perm (x :: A) := List.perm_append_comm (l₁ := A) (l₂ := [x])
  exact h1.trans (h2.cons y)
theorem made0 (w : World) : (Instr.buildSlice 30 0 #[]).run Tryz.prog w = .ok (.slice (some ⟨w.heap.size, 0, none⟩) 0 0) (w.alloc (.cells ([] : List Value).toArray 5)) := by kernel_rfl
theorem mcells_one (m : Nat → Nat) : (mcells m).all (·.oneCell') = true := by
  unfold mcells
  rw [List.all_eq_true]
  intro x hx
  obtain ⟨i, _, rfl⟩ := List.mem_map.1 hx
  rfl
theorem row0 (g : Nat) : RowOf 5 1 [(g, 5, [])] (.slice (some ⟨g, 0, none⟩) 0 0) 0 [] := ⟨by simp, .inr ⟨g, 0, [], rfl, rfl, Nat.le_refl _, by unfold maxLen; omega, rfl, rfl⟩⟩
theorem row_out {R : Blocks} {g n cap : Nat} {xs : List Value} (h : RowOf 5 1 R (.slice (some ⟨g, 0, none⟩) n cap) n xs) : ∃ cur, R = [(g, 5, cur)] ∧ ∀ i, i < n → cur[i]? = xs[i]? := by
  obtain ⟨_, ⟨_, h0, _⟩ | ⟨g', cap', cur, hR, hv, _, _, _, ht⟩⟩ := h
  · cases h0
  · injection hv with hv1 _ _
    injection hv1 with hv1
    injection hv1 with hv1
    subst hv1
    refine ⟨cur, hR, fun i hi => ?_⟩
    rw [← ht, List.getElem?_take, if_pos (by omega)]
theorem build_cpy (fh fl dh dl mh ml : Nat) (w : World) : (Instr.build 25 #[(6, .int .u8 (fh : Int)), (7, .int .u8 (fl : Int)), (4, .int .u8 (dh : Int)), (5, .int .u8 (dl : Int)), (2, .int .u8 (mh : Int)), (3, .int .u8 (ml : Int))]).run Tryz.prog w = .ok ({ rg0 with h := fh, l := fl, d := dh, e := dl, b := mh, c := ml } : Rg).v w := by kernel_rfl
theorem own_built6 {P : Program} {w : World} {ops : Array Oper} {rest : List Oper} {o : Oper} {a : Act} {Q : Exit → Act → World → Prop} {t : TypeId} {i1 i2 i3 i4 i5 i6 : Nat} {x1 x2 x3 x4 x5 x6 : Operand} {v1 v2 v3 v4 v5 v6 v : Value} (hx : ∀ w, (Instr.build t #[(i1, v1), (i2, v2), (i3, v3), (i4, v4), (i5, v5), (i6, v6)]).run P w = .ok v w)
    (ho : o.op = .build t #[(i1, x1), (i2, x2), (i3, x3), (i4, x4), (i5, x5), (i6, x6)]) (h1 : a.eval x1 = v1) (h2 : a.eval x2 = v2) (h3 : a.eval x3 = v3) (h4 : a.eval x4 = v4) (h5 : a.eval x5 = v5) (h6 : a.eval x6 = v6) (hw : Region.wanted o (yielded ops a.tmps) = true) (h : wpList P ops Q rest (a.put o.dst v) w) : wpList P ops Q (o :: rest) a w :=
  own_built hx ho (by simp [h1, h2, h3, h4, h5, h6]) hw h
theorem cpy_begin (m0 : Nat → Nat) (fr ad m fh fl dh dl mh ml : Nat) (h1 : fr = fh * 256 + fl) (h2 : ad = dh * 256 + dl) (h3 : m = mh * 256 + ml) (hm : 1 ≤ m) : CpyAt m0 fr ad m 0 0 ({ rg0 with h := fh, l := fl, d := dh, e := dl, b := mh, c := ml } : Rg) ⟨m0, []⟩ :=
  ⟨fun i => (if_neg (by omega)).symm, rfl, rfl, h1.symm, h2.symm, h3.symm, .inl ⟨by omega, rfl, rfl⟩⟩
theorem cpy_clk (m0 : Nat → Nat) (fr ad m k clk : Nat) (r : Rg) (u : U) (h : CpyAt m0 fr ad m k clk r u) (hm : m ≤ 300) : clk ≤ 6300 := by
  obtain ⟨_, _, _, _, _, _, h⟩ := h; omega
set_option maxRecDepth 100000 in
set_option maxHeartbeats 1600000 in
theorem copies_any (fr ad : Nat) (many : Int) (hfr : fr < 65536) (had : ad < 65536) (w : World) (hT : Tabs w) : Calls Tryz.prog 9 #[.int .u16 (fr : Int), .int .u16 (ad : Int), .int .i64 many] w fun e w' => e = .returned (.bool true) ∧ Below w.heap.size w w' := by
  have HT := Lib.hid hT
  clear hT
  by_cases c1 : fr < 4096
  · have d1 : decide ((fr : Int) < 4096) = true := decide_eq_true (by omega)
    have HM := Lib.hid (Own.start w)
    go_enter Tryz.func9, Tryz.ntmps9
    go_wp2_with (first
      | (go_at_call 16; (with_reducible refine (cpuAlive_any _ (Tabs.own HT HM)).mono ?_); rintro e w' ⟨rfl, hb⟩; replace HM := Lib.hid (HM.out.call hb); clear hb))
    go_ret
    exact ⟨rfl, Own.fin HM⟩
  have d1 : decide ((fr : Int) < 4096) = false := decide_eq_false (by omega)
  by_cases c2 : ad < 20480
  · have d2 : decide ((ad : Int) < 20480) = true := decide_eq_true (by omega)
    have HM := Lib.hid (Own.start w)
    go_enter Tryz.func9, Tryz.ntmps9
    go_wp2_with (first
      | (go_at_call 16; (with_reducible refine (cpuAlive_any _ (Tabs.own HT HM)).mono ?_); rintro e w' ⟨rfl, hb⟩; replace HM := Lib.hid (HM.out.call hb); clear hb))
    go_ret
    exact ⟨rfl, Own.fin HM⟩
  have d2 : decide ((ad : Int) < 20480) = false := decide_eq_false (by omega)
  by_cases c3 : 16384 < fr
  · have d3 : decide ((16384 : Int) < (fr : Int)) = true := decide_eq_true (by omega)
    have HM := Lib.hid (Own.start w)
    go_enter Tryz.func9, Tryz.ntmps9
    go_wp2_with (first
      | (go_at_call 16; (with_reducible refine (cpuAlive_any _ (Tabs.own HT HM)).mono ?_); rintro e w' ⟨rfl, hb⟩; replace HM := Lib.hid (HM.out.call hb); clear hb))
    go_ret
    exact ⟨rfl, Own.fin HM⟩
  have d3 : decide ((16384 : Int) < (fr : Int)) = false := decide_eq_false (by omega)
  by_cases c4 : 61440 < ad
  · have d4 : decide ((61440 : Int) < (ad : Int)) = true := decide_eq_true (by omega)
    have HM := Lib.hid (Own.start w)
    go_enter Tryz.func9, Tryz.ntmps9
    go_wp2_with (first
      | (go_at_call 16; (with_reducible refine (cpuAlive_any _ (Tabs.own HT HM)).mono ?_); rintro e w' ⟨rfl, hb⟩; replace HM := Lib.hid (HM.out.call hb); clear hb))
    go_ret
    exact ⟨rfl, Own.fin HM⟩
  have d4 : decide ((61440 : Int) < (ad : Int)) = false := decide_eq_false (by omega)
  by_cases c5 : many < 1
  · have d5 : decide (many < 1) = true := decide_eq_true (by omega)
    have HM := Lib.hid (Own.start w)
    go_enter Tryz.func9, Tryz.ntmps9
    go_wp2_with (first
      | (go_at_call 16; (with_reducible refine (cpuAlive_any _ (Tabs.own HT HM)).mono ?_); rintro e w' ⟨rfl, hb⟩; replace HM := Lib.hid (HM.out.call hb); clear hb))
    go_ret
    exact ⟨rfl, Own.fin HM⟩
  have d5 : decide (many < 1) = false := decide_eq_false (by omega)
  by_cases c6 : 300 < many
  · have d6 : decide (300 < many) = true := decide_eq_true (by omega)
    have HM := Lib.hid (Own.start w)
    go_enter Tryz.func9, Tryz.ntmps9
    go_wp2_with (first
      | (go_at_call 16; (with_reducible refine (cpuAlive_any _ (Tabs.own HT HM)).mono ?_); rintro e w' ⟨rfl, hb⟩; replace HM := Lib.hid (HM.out.call hb); clear hb))
    go_ret
    exact ⟨rfl, Own.fin HM⟩
  have d6 : decide (300 < many) = false := decide_eq_false (by omega)
  obtain ⟨m, rfl⟩ : ∃ m : Nat, many = (m : Int) := ⟨many.toNat, by omega⟩
  have m1 : 1 ≤ m := by omega
  have m2 : m ≤ 300 := by omega
  have ad2 : (ad : Int) ≤ 61440 := by omega
  have fr2 : (fr : Int) ≤ 16384 := by omega
  have m3 : (m : Int) ≤ 300 := by omega
  obtain ⟨fh, hfh⟩ : ∃ x : Nat, fr / 256 = x := ⟨_, rfl⟩
  obtain ⟨fl, hfl⟩ : ∃ x : Nat, fr % 256 = x := ⟨_, rfl⟩
  obtain ⟨dh, hdh⟩ : ∃ x : Nat, ad / 256 = x := ⟨_, rfl⟩
  obtain ⟨dl, hdl⟩ : ∃ x : Nat, ad % 256 = x := ⟨_, rfl⟩
  obtain ⟨mh, hmh⟩ : ∃ x : Nat, m / 256 = x := ⟨_, rfl⟩
  obtain ⟨ml, hml⟩ : ∃ x : Nat, m % 256 = x := ⟨_, rfl⟩
  have p1 : (fr : Int) / 256 = (fh : Int) := by omega
  have p2 : (fr : Int) % 256 = (fl : Int) := by omega
  have p3 : (ad : Int) / 256 = (dh : Int) := by omega
  have p4 : (ad : Int) % 256 = (dl : Int) := by omega
  have p5 : (m : Int) / 256 = (mh : Int) := by omega
  have p6 : (m : Int) % 256 = (ml : Int) := by omega
  have q1 : (fh : Int) < 256 := by omega
  have q3 : (dh : Int) < 256 := by omega
  have q5 : (mh : Int) < 256 := by omega
  obtain ⟨m0, hm0⟩ : ∃ m0, Hid (lay (bas 7) 0 [237, 176] = m0) := ⟨_, rfl⟩
  have HM0 : Hid (m0 0 = 237 ∧ m0 1 = 176) := Lib.hid (by have h := lay_two 7 0 237 176 (by decide); rw [hm0.out] at h; exact h)
  have HCB := Lib.hid (cpy_begin m0 fr ad m fh fl dh dl mh ml (by omega) (by omega) (by omega) m1)
  have HFT : Hid ({ rg0 with h := fh, l := fl, d := dh, e := dl, b := mh, c := ml } : Rg).Fits := Lib.hid { rg0_fits with h := (by show fh < 256; omega), l := (by show fl < 256; omega), d := (by show dh < 256; omega), e := (by show dl < 256; omega), b := (by show mh < 256; omega), c := (by show ml < 256; omega) }
  clear hfh hfl hdh hdl hmh hml
  have HM := Lib.hid (Own.start w)
  have tg1 : Hid True := trivial
  have tg2 : Hid True := trivial
  have tg3 : Hid True := trivial
  go_enter Tryz.func9, Tryz.ntmps9
  go_upto_region 6 with (first
    | (go_at_call 16; (with_reducible refine (cpuAlive_any _ (Tabs.own HT HM)).mono ?_); rintro e w' ⟨rfl, hb⟩; replace HM := Lib.hid (HM.out.call hb); clear hb)
    | ((with_reducible apply own_made (cs := [.int .u8 237, .int .u8 176]) (e := 5) (n := 2) HM); exact rfl; exact box_cpy_made; (focus (go_simp; done)); exact rfl; (first | (clear tg1; intro w' g1 HM') | (clear tg2; intro w' g2 HM') | (clear tg3; intro w' g3 HM') | (clear tg4; intro w' g4 HM')); clear HM; have HM := HM'; clear HM'; all_goals skip)
    | (go_at_call 14; (with_reducible refine (box_cpy HM).mono ?_); rintro e w' ⟨b, rfl, hB⟩; have HB := hB; clear HM hB))
  rw [hm0.out] at HB
  obtain ⟨h8, hl, gm, lv, Rr, N, hN, hRow, hO⟩ := Bx.out (n := 999999) HB.out
  have HM := Lib.hid hO
  have H8 := Lib.hid h8
  have HNN := Lib.hid hN
  have HRow := Lib.hid hRow
  have HLN : Hid ((mcells m0).length = N) := Lib.hid (by rw [mcells_length, hN])
  have HN0 : Hid (0 < N) := Lib.hid (by rw [hN]; decide)
  have HNB : Hid (0 + N ≤ 1000000) := Lib.hid (by rw [hN]; decide)
  clear HB h8 hl hN hRow hO
  go_upto_region 7 with (first
    | ((with_reducible apply own_box HM); exact rfl; (conv => lhs; whnf); exact rfl; exact rfl; (first | (clear tg1 HM; intro w' g1 HM) | (clear tg2 HM; intro w' g2 HM) | (clear tg3 HM; intro w' g3 HM) | (clear tg4 HM; intro w' g4 HM) | (clear HM; intro w' g' HM)); all_goals skip) | ((with_reducible apply own_cell HM); exact rfl; exact rfl; (first | (with_reducible exact oneU8s)); (with_reducible first | exact .z | exact .s .z | exact .s (.s .z) | exact .s (.s (.s .z)) | exact .s (.s (.s (.s .z)))); (focus repeat' (first | with_reducible exact .z | with_reducible apply Drop.s)); exact rfl; all_goals skip) | ((with_reducible apply own_store HM); exact rfl; exact rfl; (conv => lhs; whnf); exact rfl; (with_reducible first | exact .z | exact .s .z | exact .s (.s .z) | exact .s (.s (.s .z)) | exact .s (.s (.s (.s .z)))); (focus repeat' (first | with_reducible exact .z | with_reducible apply Over.p | with_reducible apply Over.s)); (with_reducible first | exact .z | exact .s .z | exact .s (.s .z) | exact .s (.s (.s .z)) | exact .s (.s (.s (.s .z)))); (first | (with_reducible exact (oneU8s).size)); exact rfl; exact rfl; exact rfl; exact rfl; clear HM; intro w' HM; all_goals skip)
    | ((with_reducible apply own_made (cs := []) (e := 5) (n := 0) HM); exact rfl; exact made0; (focus (go_simp; done)); exact rfl; clear tg2 HM; intro w' g2 HM; all_goals skip)
    | (refine own_grows (m := N) (n := 0) (xs := []) (us := mcells m0) (L := _ :: _ :: (Rr ++ _)) (R := [_]) HM (List.perm_append_comm (l₁ := [_])) (.s (.s .z)) (row0 g2) rfl rfl rfl rfl (mcells_one m0) HLN.out HN0.out HNB.out ?_; clear HM; intro gg cap w' R1 HR1 HM; all_goals skip))
  rw [Nat.zero_add] at HR1
  obtain ⟨cur, rfl, hcur⟩ := row_out HR1
  have HCUR := Lib.hid hcur
  have HB : Hid (Bx w w' b ⟨m0, []⟩ [(gg, 5, cur), (g1, 5, [.int .u8 237, .int .u8 176])] 999999) :=
    Lib.hid (Bx.back H8.out (by show 0 + 999999 ≤ 1000000; decide) HNN.out HRow.out (HM.out.perm (((perm_back2 _ _ _).cons _).cons _)))
  clear HM HR1 hcur HRow H8
  obtain ⟨HG, X, HX, HM⟩ := HB.out.hid2
  clear HB d1 d2 d3 d4 d5 d6
  go_upto_region 10 with (first
    | ((with_reducible apply own_built6 (build_cpy fh fl dh dl mh ml)); exact rfl; exact rfl; exact rfl; exact rfl; exact rfl; exact rfl; exact rfl; exact rfl; all_goals skip)
    | ((with_reducible apply own_alloc HM); exact rfl; (with_reducible exact zeroR); exact rfl; (first | (clear tg1 HM; intro w' g1 HM) | (clear tg2 HM; intro w' g2 HM) | (clear tg3 HM; intro w' g3 HM) | (clear tg4 HM; intro w' g4 HM) | (clear tg5 HM; intro w' g5 HM) | (clear tg6 HM; intro w' g6 HM)); all_goals skip) | ((with_reducible apply own_lay HM); exact rfl; exact rfl; exact rfl; (with_reducible first | exact .z | exact .s .z | exact .s (.s .z) | exact .s (.s (.s .z)) | exact .s (.s (.s (.s .z)))); (with_reducible first | exact .z | exact .s .z | exact .s (.s .z) | exact .s (.s (.s .z)) | exact .s (.s (.s (.s .z)))); exact aggR.size; (first | exact Rg.cells_length _ | exact rfl); (first | exact Rg.cells_length _ | exact rfl); (first | exact Rg.one1 _ | exact rfl); exact rfl; exact rfl; clear HM; intro w' HM; all_goals skip))
  go_loopw [10, 11] (fun c10 c11 wr => ∃ (k clk : Nat) (r : Rg) (u : U) (X : Blocks), c10 = .int .i64 (clk : Int) ∧ c11 = .int .i64 (k : Int) ∧ k ≤ m ∧ Hid r.Fits ∧ Hid (CpyAt m0 fr ad m k clk r u) ∧ Hid (u.Good (999999 - 6 * k)) ∧ Hid (IsBox X b u) ∧ Hid (Own w wr ((g3, 25, r.cells) :: (gg, 5, cur) :: (g1, 5, [.int .u8 237, .int .u8 176]) :: X))) (fun _ i _ => m - (intOf i).toNat)
  case atStart => exact ⟨0, 0, _, _, X, rfl, rfl, by omega, HFT, HCB, HG, HX, HM⟩
  case round =>
    clear HM HG HX HCB HFT
    obtain ⟨k, clk, r, u, X, rfl, rfl, hk, HR, HC, HG, HX, HM⟩ := hrel
    by_cases hlt : k < m
    · have hlt2 : (k : Int) < (m : Int) := by omega
      obtain ⟨r', hr'⟩ : ∃ x, Hid (stepR r u = x) := ⟨_, rfl⟩
      obtain ⟨k', hk'⟩ : ∃ x, Hid (stepN r u = x) := ⟨_, rfl⟩
      obtain ⟨u', hu'⟩ : ∃ x, Hid (stepU r u = x) := ⟨_, rfl⟩
      have hst := cpy_step m0 fr ad m k clk r u (by omega) (by omega) (by omega) hlt HM0.out.1 HM0.out.2 HC.out
      rw [hr'.out, hk'.out, hu'.out] at hst
      have HC' := Lib.hid hst
      have hb := cpy_clk m0 fr ad m (k + 1) (clk + k') r' u' hst m2
      have k1 : (clk : Int) + (k' : Int) ≤ 6300 := by omega
      have HG2 : Hid (u.Good (999999 - 6 * (k + 1) + 6)) := Lib.hid (HG.out.less (by omega))
      clear hst hb HC HG
      have HG := HG2
      clear HG2
      have tg4 : Hid True := trivial
      go_wp2_with (first
        | ((with_reducible apply own_row HM); exact rfl; exact rfl; exact aggR; (with_reducible first | exact .z | exact .s .z | exact .s (.s .z) | exact .s (.s (.s .z)) | exact .s (.s (.s (.s .z)))); exact rfl; (first | exact Rg.cells_length _ | exact rfl); all_goals skip)
        | (go_at_call 13; have hbx : Hid (Bx _ _ b _ [_, _, _] _) := Lib.hid ⟨HG.out, X, HX.out, HM.out⟩; (with_reducible refine (step_to HT HR hr' hk' hu' hbx).mono ?_); clear hbx; rintro e w' ⟨rfl, HR', hB⟩; clear HM HG HX HR; obtain ⟨HG, X, HX, HM⟩ := hB.out.hid3; have HR := HR'; clear HR')
        | ((with_reducible apply own_alloc HM); exact rfl; (with_reducible exact zeroR); exact rfl; (first | (clear tg1 HM; intro w' g1 HM) | (clear tg2 HM; intro w' g2 HM) | (clear tg3 HM; intro w' g3 HM) | (clear tg4 HM; intro w' g4 HM) | (clear tg5 HM; intro w' g5 HM) | (clear tg6 HM; intro w' g6 HM)); all_goals skip) | ((with_reducible apply own_lay HM); exact rfl; exact rfl; exact rfl; (with_reducible first | exact .z | exact .s .z | exact .s (.s .z) | exact .s (.s (.s .z)) | exact .s (.s (.s (.s .z)))); (with_reducible first | exact .z | exact .s .z | exact .s (.s .z) | exact .s (.s (.s .z)) | exact .s (.s (.s (.s .z)))); exact aggR.size; (first | exact Rg.cells_length _ | exact rfl); (first | exact Rg.cells_length _ | exact rfl); (first | exact Rg.one1 _ | exact rfl); exact rfl; exact rfl; clear HM; intro w' HM; all_goals skip))
      go_roundw
      case rel => exact ⟨k + 1, clk + k', r', u', X, by go_num, by go_num, by omega, HR, HC', HG, HX, Lib.hid HM.out.rest⟩
      case measure => simp [intOf]; omega
    · obtain rfl : k = m := by omega
      obtain ⟨um, ug⟩ := u
      obtain ⟨z1, z2, z3, z4, z5, z6, z7⟩ := HC.out
      have zc : clk = 21 * k - 5 ∧ r.pc = 2 := by rcases z7 with h | h <;> omega
      have HU := Lib.hid z1
      have HZ := Lib.hid (And.intro zc (And.intro z4 (And.intro z5 z6)))
      obtain ⟨h8', hl', gm', lv', Rr', N', hN', hRow', hO'⟩ := Bx.out (n := 1000) (Bx.less (⟨HG.out, X, HX.out, HM.out⟩ : Bx w wr b ⟨um, ug⟩ [_, _, _] _) (by omega))
      have HM2 := hO'.perm ((List.perm_append_comm.cons _).cons _)
      clear HM HG HX
      simp only [List.cons_append, List.nil_append] at HM2
      have HM := Lib.hid HM2
      have HN2 := Lib.hid hN'
      clear HM2 hO' hRow' hl' h8' hN' z1 z2 z3 z4 z5 z6 z7 zc HC hlt hk
      go_upto_region 16 with (first
        | ((with_reducible apply own_box HM); exact rfl; (conv => lhs; whnf); exact rfl; exact rfl; (first | (clear tg1 HM; intro w' g1 HM) | (clear tg2 HM; intro w' g2 HM) | (clear tg3 HM; intro w' g3 HM) | (clear tg4 HM; intro w' g4 HM) | (clear HM; intro w' g' HM)); all_goals skip) | ((with_reducible apply own_cell HM); exact rfl; exact rfl; (first | (with_reducible exact oneU8s)); (with_reducible first | exact .z | exact .s .z | exact .s (.s .z) | exact .s (.s (.s .z)) | exact .s (.s (.s (.s .z)))); (focus repeat' (first | with_reducible exact .z | with_reducible apply Drop.s)); exact rfl; all_goals skip) | ((with_reducible apply own_store HM); exact rfl; exact rfl; (conv => lhs; whnf); exact rfl; (with_reducible first | exact .z | exact .s .z | exact .s (.s .z) | exact .s (.s (.s .z)) | exact .s (.s (.s (.s .z)))); (focus repeat' (first | with_reducible exact .z | with_reducible apply Over.p | with_reducible apply Over.s)); (with_reducible first | exact .z | exact .s .z | exact .s (.s .z) | exact .s (.s (.s .z)) | exact .s (.s (.s (.s .z)))); (first | (with_reducible exact (oneU8s).size)); exact rfl; exact rfl; exact rfl; exact rfl; clear HM; intro w' HM; all_goals skip))
      go_loopw [87] (fun c wr2 => ∃ i : Nat, i ≤ N' ∧ c = .int .i64 (i : Int) ∧ Hid (Own w wr2 ((b, 40, [.slice (some ⟨gm', 0, none⟩) N' N', lv']) :: (gm', 5, mcells um) :: (g3, 25, r.cells) :: (gg, 5, cur) :: (g1, 5, [.int .u8 237, .int .u8 176]) :: Rr'))) (fun i _ => N' - (intOf i).toNat)
      case atStart => exact ⟨0, by omega, rfl, HM⟩
      case round =>
        clear HM
        obtain ⟨i, hi, rfl, HM⟩ := hrel
        have n1 := HN2.out
        have n2 := HNN.out
        by_cases hlt : i < N'
        · have i1 : i < 65536 := by omega
          have hlt2 : (i : Int) < (N' : Int) := by omega
          have hlt3 : (i : Int) < (N : Int) := by omega
          have i2 : (i : Int) < 65536 := by omega
          have HV : Hid ((mcells um)[i]? = some (.int .u8 ((um i : Nat) : Int))) := Lib.hid (mcells_get um i i1)
          have HW : Hid (cur[i]? = some (.int .u8 ((m0 i : Nat) : Int))) := Lib.hid ((HCUR.out i (by omega)).trans (mcells_get m0 i i1))
          have hui := HU.out i
          by_cases hin : ad ≤ i ∧ i < ad + k
          · have b1 : (ad : Int) ≤ (i : Int) := by omega
            have b2 : (i : Int) < (ad : Int) + (k : Int) := by omega
            obtain ⟨j, hj⟩ : ∃ j : Nat, j = fr + (i - ad) := ⟨_, rfl⟩
            have j1 : j < 65536 := by omega
            have j2 : (fr : Int) + (i : Int) - (ad : Int) = (j : Int) := by omega
            have j3 : (j : Int) < (N : Int) := by omega
            have HJ : Hid (cur[j]? = some (.int .u8 ((m0 j : Nat) : Int))) := Lib.hid ((HCUR.out j (by omega)).trans (mcells_get m0 j j1))
            have hv : um i = m0 j := by rw [hui, hj]; exact if_pos hin
            rw [hv] at HV
            clear hui hj hv hin n1 n2 i1 j1 c1 c2 c3 c4 hfr had
            go_wp2_with (first
              | ((with_reducible apply own_box HM); exact rfl; (conv => lhs; whnf); exact rfl; exact rfl; (first | (clear tg1 HM; intro w' g1 HM) | (clear tg2 HM; intro w' g2 HM) | (clear tg3 HM; intro w' g3 HM) | (clear tg4 HM; intro w' g4 HM) | (clear HM; intro w' g' HM)); all_goals skip) | ((with_reducible apply own_cell HM); exact rfl; exact rfl; (first | (with_reducible exact oneU8s)); (with_reducible first | exact .z | exact .s .z | exact .s (.s .z) | exact .s (.s (.s .z)) | exact .s (.s (.s (.s .z)))); (focus repeat' (first | with_reducible exact .z | with_reducible apply Drop.s)); exact rfl; all_goals skip) | ((with_reducible apply own_store HM); exact rfl; exact rfl; (conv => lhs; whnf); exact rfl; (with_reducible first | exact .z | exact .s .z | exact .s (.s .z) | exact .s (.s (.s .z)) | exact .s (.s (.s (.s .z)))); (focus repeat' (first | with_reducible exact .z | with_reducible apply Over.p | with_reducible apply Over.s)); (with_reducible first | exact .z | exact .s .z | exact .s (.s .z) | exact .s (.s (.s .z)) | exact .s (.s (.s (.s .z)))); (first | (with_reducible exact (oneU8s).size)); exact rfl; exact rfl; exact rfl; exact rfl; clear HM; intro w' HM; all_goals skip)
              | ((with_reducible apply own_get HM); exact rfl; exact rfl; (with_reducible exact oneU8); (first | exact .s .z | exact .s (.s (.s .z))); (first | (with_reducible exact HV.out) | (with_reducible exact HW.out) | (with_reducible exact HJ.out)); exact rfl; all_goals skip))
            go_roundw
            case rel => exact ⟨i + 1, by omega, by go_num, HM⟩
            case measure => simp [intOf]; omega
          · have hv : um i = m0 i := by rw [hui]; exact if_neg hin
            rw [hv] at HV
            have HJ := HW
            by_cases h2 : ad ≤ i
            · have b1 : (ad : Int) ≤ (i : Int) := by omega
              have b2 : ¬ (i : Int) < (ad : Int) + (k : Int) := by omega
              clear hui hv hin n1 n2 i1 h2 c1 c2 c3 c4 hfr had
              go_wp2_with (first
                | ((with_reducible apply own_box HM); exact rfl; (conv => lhs; whnf); exact rfl; exact rfl; (first | (clear tg1 HM; intro w' g1 HM) | (clear tg2 HM; intro w' g2 HM) | (clear tg3 HM; intro w' g3 HM) | (clear tg4 HM; intro w' g4 HM) | (clear HM; intro w' g' HM)); all_goals skip) | ((with_reducible apply own_cell HM); exact rfl; exact rfl; (first | (with_reducible exact oneU8s)); (with_reducible first | exact .z | exact .s .z | exact .s (.s .z) | exact .s (.s (.s .z)) | exact .s (.s (.s (.s .z)))); (focus repeat' (first | with_reducible exact .z | with_reducible apply Drop.s)); exact rfl; all_goals skip) | ((with_reducible apply own_store HM); exact rfl; exact rfl; (conv => lhs; whnf); exact rfl; (with_reducible first | exact .z | exact .s .z | exact .s (.s .z) | exact .s (.s (.s .z)) | exact .s (.s (.s (.s .z)))); (focus repeat' (first | with_reducible exact .z | with_reducible apply Over.p | with_reducible apply Over.s)); (with_reducible first | exact .z | exact .s .z | exact .s (.s .z) | exact .s (.s (.s .z)) | exact .s (.s (.s (.s .z)))); (first | (with_reducible exact (oneU8s).size)); exact rfl; exact rfl; exact rfl; exact rfl; clear HM; intro w' HM; all_goals skip)
                | ((with_reducible apply own_get HM); exact rfl; exact rfl; (with_reducible exact oneU8); (first | exact .s .z | exact .s (.s (.s .z))); (first | (with_reducible exact HV.out) | (with_reducible exact HW.out) | (with_reducible exact HJ.out)); exact rfl; all_goals skip))
              go_roundw
              case rel => exact ⟨i + 1, by omega, by go_num, HM⟩
              case measure => simp [intOf]; omega
            · have b1 : ¬ (ad : Int) ≤ (i : Int) := by omega
              clear hui hv hin n1 n2 i1 h2 c1 c2 c3 c4 hfr had
              go_wp2_with (first
                | ((with_reducible apply own_box HM); exact rfl; (conv => lhs; whnf); exact rfl; exact rfl; (first | (clear tg1 HM; intro w' g1 HM) | (clear tg2 HM; intro w' g2 HM) | (clear tg3 HM; intro w' g3 HM) | (clear tg4 HM; intro w' g4 HM) | (clear HM; intro w' g' HM)); all_goals skip) | ((with_reducible apply own_cell HM); exact rfl; exact rfl; (first | (with_reducible exact oneU8s)); (with_reducible first | exact .z | exact .s .z | exact .s (.s .z) | exact .s (.s (.s .z)) | exact .s (.s (.s (.s .z)))); (focus repeat' (first | with_reducible exact .z | with_reducible apply Drop.s)); exact rfl; all_goals skip) | ((with_reducible apply own_store HM); exact rfl; exact rfl; (conv => lhs; whnf); exact rfl; (with_reducible first | exact .z | exact .s .z | exact .s (.s .z) | exact .s (.s (.s .z)) | exact .s (.s (.s (.s .z)))); (focus repeat' (first | with_reducible exact .z | with_reducible apply Over.p | with_reducible apply Over.s)); (with_reducible first | exact .z | exact .s .z | exact .s (.s .z) | exact .s (.s (.s .z)) | exact .s (.s (.s (.s .z)))); (first | (with_reducible exact (oneU8s).size)); exact rfl; exact rfl; exact rfl; exact rfl; clear HM; intro w' HM; all_goals skip)
                | ((with_reducible apply own_get HM); exact rfl; exact rfl; (with_reducible exact oneU8); (first | exact .s .z | exact .s (.s (.s .z))); (first | (with_reducible exact HV.out) | (with_reducible exact HW.out) | (with_reducible exact HJ.out)); exact rfl; all_goals skip))
              go_roundw
              case rel => exact ⟨i + 1, by omega, by go_num, HM⟩
              case measure => simp [intOf]; omega
        · obtain rfl : i = N' := by omega
          obtain ⟨zc, z4, z5, z6⟩ := HZ.out
          obtain ⟨E, hE⟩ : ∃ E : Nat, fr + k = E := ⟨_, rfl⟩
          have hh := HR.out.h
          have hl := HR.out.l
          have e1 : IntKind.u16.wrap ((fr : Int) + (k : Int)) = (E : Int) := by show ((fr : Int) + (k : Int)) % 65536 = _; omega
          have e2 : (E : Int) / 256 = (r.h : Int) := by omega
          have e3 : (E : Int) % 256 = (r.l : Int) := by omega
          have e4 : (r.h : Int) < 256 := by omega
          have e5 : ((clk : Int) == 21 * (k : Int) - 5) = true := by rw [zc.1]; simp; omega
          have e6 : ((r.pc : Int) == 2) = true := by rw [zc.2]; rfl
          have e7 : ((r.b : Int) == 0) = true := by simp; omega
          have e8 : ((r.c : Int) == 0) = true := by simp; omega
          have k3 : (k : Int) ≤ 300 := by omega
          clear zc z4 z5 z6 hE n1 n2 hlt hh hl c1 c2 c3 c4 hfr had
          go_wp2_with (first
            | ((with_reducible apply own_get HM); exact rfl; exact rfl; (with_reducible first | exact oneU8 | exact oneU16 | exact oneBool | exact oneInt); (with_reducible first | exact .z | exact .s .z | exact .s (.s .z) | exact .s (.s (.s .z)) | exact .s (.s (.s (.s .z)))); (conv => lhs; whnf); exact rfl; all_goals skip))
          go_ret
          exact ⟨rfl, Own.fin HM⟩
end Go.Proofs.YtljjgakfnajifaaGreatDoor
namespace Go.Proofs.YtljjgakfnajifaaGreatDoor.cpuCopies
open Go.ChangeShapes Go.WideShapes Go.ChangeAt Go.RowKit
theorem own : ownKnob Tryz.prog.godebug = none := by kernel_rfl
theorem door_met (os : Os) (args : Array Value) : laidMetH Tryz.prog Rows.cpuCopiesRow.laid ((World.doorLaid Tryz.prog 400 os).forCall (fun _ _ => 0) ⟨#[], args, []⟩).memory :=
  laidMetH_of_parts3 (fuel := 8) (laidMet_of_run' 8 (by kernel_rfl) (by kernel_rfl)) (by kernel_rfl) (by kernel_rfl)
theorem laidOut : laidOutB Tryz.prog = true := by kernel_rfl
set_option maxRecDepth 100000 in
set_option maxHeartbeats 6400000 in
theorem lifted (os : Os) (started : os.Started) (H : Type) (enc : TypeId × Value → H) :
    ReturnsInHanded {} Tryz.checked os 9 .any (fun w args => (Rows.cpuCopiesSpec.pre enc Tryz.prog Tryz.f9 [] false w args ∧ laidMetH Tryz.prog Rows.cpuCopiesRow.laid w) ∧ sizedMet enc Tryz.prog Tryz.f9 (OpenSpec.ofChange Rows.cpuCopiesSpec) false w args) (Rows.cpuCopiesSpec.post enc Tryz.prog Tryz.f9 false true false false) := by
  refine returnsInHanded_of_change_and (C := Tryz.checked) (X := fun w _ => laidMetH Tryz.prog Rows.cpuCopiesRow.laid w) (fun _ _ _ hh h => h.of_heap hh) own started (by kernel_rfl) Tryz.func9
    (ChangeSpec.witness_shaped (enc := enc) (C := Tryz.checked) (os := os) (X := fun w _ => laidMetH Tryz.prog Rows.cpuCopiesRow.laid w) false (World.doorLaid Tryz.prog 400 os) #[.int .u16 0, .int .u16 0, .int .i64 0] 8 rfl (World.shaped_of_RefB (by kernel_rfl) (by kernel_rfl)) (by kernel_rfl) (by kernel_rfl) (by kernel_rfl) (door_met os _)) ?_
  intro W base args ds gs before hval0 hW _ _ hL _
  have hT := tabs_of hL
  have hval : ∀ (j : Nat) t v, Tryz.f9.params[j]? = some t → args[j]? = some v → Value.okWide Tryz.prog W .any base t v := hval0
  have hW' := hW
  obtain ⟨p, q, hA0, hV, rfl, hfz, hnd⟩ := hW
  have hA : DataW.TrodAll enc Tryz.prog W 0 (fun _ => true) true Tryz.f9.params.toList args.toList ds p := hA0
  rw [Tryz.params9] at hA hval
  obtain ⟨v0, vs0, d0, ds0, p0, q0, hargs, rfl, rfl, h0, r0⟩ := trodAll_cons hA
  obtain ⟨v1, vs1, d1, ds1, p1, q1, rfl, rfl, rfl, h1, r1⟩ := trodAll_cons r0
  obtain ⟨v2, vs2, d2, ds2, p2, q2, rfl, rfl, rfl, h2, r2⟩ := trodAll_cons r1
  obtain ⟨rfl, rfl, rfl⟩ := trodAll_nil r2
  obtain rfl : args = #[v0, v1, v2] := by cases args; simp_all
  obtain ⟨rfl, rfl⟩ := trodVars_none hV
  have k0 := h0
  have lt0 : ∀ x ∈ p0, x.block < W.heap.size := by obtain ⟨m, hm⟩ := k0; exact DataW.trod_lt m _ _ _ hm
  have k1 := h1
  have lt1 : ∀ x ∈ p1, x.block < W.heap.size := by obtain ⟨m, hm⟩ := k1; exact DataW.trod_lt m _ _ _ hm
  have k2 := h2
  have lt2 : ∀ x ∈ p2, x.block < W.heap.size := by obtain ⟨m, hm⟩ := k2; exact DataW.trod_lt m _ _ _ hm
  obtain ⟨x0, rfl, rfl, rfl, w0⟩ := open_int Tryz.underlying23 (hval 0 23 v0 rfl rfl) h0
  have b0 := bounds_u16 w0
  obtain ⟨n0, rfl⟩ := Int.eq_ofNat_of_zero_le b0.1
  obtain ⟨x1, rfl, rfl, rfl, w1⟩ := open_int Tryz.underlying23 (hval 1 23 v1 rfl rfl) h1
  have b1 := bounds_u16 w1
  obtain ⟨n1, rfl⟩ := Int.eq_ofNat_of_zero_le b1.1
  obtain ⟨x2, rfl, rfl, rfl, w2⟩ := open_int Tryz.underlying3 (hval 2 3 v2 rfl rfl) h2
  clear hA0 hval0
  refine ((copies_any n0 n1 x2 (by omega) (by omega) W hT)).mono fun e W' ⟨he, bel⟩ => ?_
  subst he
  exact ⟨_, rfl, _, _, _, [], _, [], hW', trodAll_mk1 (shut_bool Tryz.underlying4 _), (trodAll_cons_mk (Below.trod laidOut (by kernel_rfl) (of_decide_eq_true (by kernel_rfl)) k0 bel lt0) (trodAll_cons_mk (Below.trod laidOut (by kernel_rfl) (of_decide_eq_true (by kernel_rfl)) k1 bel lt1) (trodAll_cons_mk (Below.trod laidOut (by kernel_rfl) (of_decide_eq_true (by kernel_rfl)) k2 bel lt2) trodAll_mk0))), rfl, bel.frame _, fun h => by cases h⟩
theorem over : Rows.cpuCopiesRow.holds Tryz.pinned (OpenSpec.ofChange Rows.cpuCopiesSpec) :=
  OpenClaim.holds_of_wide 9 Tryz.f9 rfl rfl rfl rfl rfl rfl rfl ⟨rfl, rfl, rfl, rfl, rfl⟩ rfl rfl rfl rfl rfl (by kernel_rfl) Tryz.func9 (by kernel_rfl)
    (of_decide_eq_true (by kernel_rfl)) (by unfold Func.isWrapper; first | (rw [if_pos (by decide +kernel)]; kernel_rfl) | (rw [if_neg (by decide +kernel)]; exact ⟨rfl, rfl⟩))
    (fun os started H enc _ => lifted os started H enc)
theorem proved : Rows.CpuCopiesCardSaid :=
  Claim7.holds_tied_plain_at .later [] [.data, .data] true _ false
    over (fun _ h => by cases h) (by kernel_rfl) (fun _ h => by cases h) cpuCopies_row_tie rfl ⟨rfl, rfl⟩ (by kernel_rfl) rfl
    (fun f fn hf hfn => by
      obtain rfl : f = 9 := Option.some.inj ((show Tryz.prog.funcNamed "joystick/joysticklaw12.CpuCopies" = some 9 by kernel_rfl).symm.trans hf) |>.symm
      obtain rfl : fn = Tryz.f9 := (Option.some.inj (Tryz.func9.symm.trans hfn)).symm
      exact ⟨by kernel_rfl, fun j t ht => by
        rw [Tryz.params9] at ht
        have hm : t ∈ [23, 23, 3] := by simpa using Array.mem_of_getElem? ht
        have hall : ([23, 23, 3].all fun u => !Tryz.prog.wantsStandIn u) = true := by kernel_rfl
        exact (show Tryz.prog.wantsStandIn t = false by simpa using List.all_eq_true.1 hall t hm)⟩)
    (by kernel_rfl)
end Go.Proofs.YtljjgakfnajifaaGreatDoor.cpuCopies
