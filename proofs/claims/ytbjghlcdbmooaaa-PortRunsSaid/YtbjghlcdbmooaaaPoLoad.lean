/-
  Load of the program's port: of bytes that can be a port's all is as they say; of others nothing is done, and the error is told. Its memory and colors, as new slices.
-/
import Derived.Test.YtbjghlcdbmooaaaPoMore
import Derived.Test.YtbjghlcdbmooaaaPoRight
import Derived.Test.YtbjghlcdbmooaaaWords
namespace Go.Proofs.Ytbjghlcdbmooaaa
open Go.RowKit

section
variable {W0 w : World} {l l' : Blks} {ops : Array Oper} {rest : List Oper} {o : Oper} {a : Act} {Q : Exit → Act → World → Prop} {K : Act → World → Prop} {g off gs os n dLen dCap sLen sCap : Nat} {t ts : TypeId} {cur cur' ss cs : List Value} {d s : Operand}
/-- the builtin copy, from a block of the call's own into another -/
theorem own_copies (HM : Hid (Own W0 w l)) (hsel : Sel l g t cur) (hsrc : Sel l gs ts ss) (hput : Put l g t cur cur' l') (hcur : splice cur off cs = cur')
    (ho : o.op = .call { callee := .builtin .copy, args := #[d, s], argTypes := #[25, 25] }) (hd : a.eval d = .slice (some ⟨g, off, none⟩) dLen dCap) (hs : a.eval s = .slice (some ⟨gs, os, none⟩) sLen sCap)
    (hc : ∀ (j : Nat) (u : Value), cs[j]? = some u → ss[os + j]? = some u) (h1 : ∀ u ∈ cs, u.oneCell' = true) (hl : cs.length = n) (hn : n = Nat.min sLen dLen) (hfit : off + n ≤ cur.length) (hw : Region.wanted o (yielded ops a.tmps) = true)
    (h : ∀ w', Hid (Own W0 w' l') → wpList Try.prog ops Q rest (a.put o.dst (goInt n)) w') : wpList Try.prog ops Q (o :: rest) a w := by
  refine wpList_wanted hw fun K hK => ?_
  subst hl
  have hg := (HM.out.whole _ hsel.mem).2
  have hsr := HM.out.at_ hsrc
  have hsz : (Try.prog.info? 5).map (·.size) = some 1 := by kernel_rfl
  have hrun := run_copy_row (P := Try.prog) w 25 25 o.type 5 g off dLen dCap ⟨gs, os, none⟩ sLen sCap cur.toArray t cs Try.underlying25 hsz hg hn (fun j v hv => by
    rw [show (⟨gs, os, none⟩ : Addr).add j = ⟨gs, os + j, none⟩ by unfold Addr.add; split <;> simp_all, hsr.at_]
    exact hc j v hv) (by simpa using hfit) h1
  unfold Oper.wp
  simp [execOp, ho, resolve, invoke, builtin, hd, hs, hrun, Result.andThen]
  refine hK _ _ (h _ (Lib.hid ?_))
  have := HM.out.of_row hput
  rw [← hcur] at this
  simpa [splice] using this
end

namespace Pt
abbrev withVr (s : Pt) (A : List Nat) : Pt := { s with vr := A }
abbrev withCr (s : Pt) (A : List Nat) : Pt := { s with cr := A }
abbrev withRg (s : Pt) (A : List Nat) : Pt := { s with rg := A }
theorem splice_mid {α : Type} (a b c d : List α) (o : Nat) (ho : a.length = o) (hb : b.length = d.length) : splice (a ++ (b ++ c)) o d = a ++ (d ++ c) := by
  subst ho
  unfold splice
  rw [List.take_left' rfl, ← hb, ← List.append_assoc a b c, List.drop_left' (by rw [List.length_append])]
theorem splice_vr {s : Pt} (h : s.Sz) (A : List Nat) (hA : A.length = 16384) : splice s.cells 0 (n8 A) = (s.withVr A).cells :=
  splice_mid [] (n8 s.vr) (n8 s.cr ++ (n8 s.rg ++ s.tail)) (n8 A) 0 rfl (by simp [h.1, hA])
theorem splice_cr {s : Pt} (h : s.Sz) (A : List Nat) (hA : A.length = 32) : splice s.cells 16384 (n8 A) = (s.withCr A).cells :=
  splice_mid (n8 s.vr) (n8 s.cr) (n8 s.rg ++ s.tail) (n8 A) 16384 (by simp [h.1]) (by simp [h.2.1, hA])
theorem splice_rg {s : Pt} (h : s.Sz) (A : List Nat) (hA : A.length = 11) : splice s.cells 16416 (n8 A) = (s.withRg A).cells := by
  have := splice_mid (n8 s.vr ++ n8 s.cr) (n8 s.rg) s.tail (n8 A) 16416 (by simp [h.1, h.2.1]) (by simp [h.2.2, hA])
  rw [List.append_assoc, List.append_assoc] at this
  exact this
end Pt
theorem piece_src (ds : List Nat) (ex : List Value) (o m : Nat) (j : Nat) (u : Value) (hu : (n8 ((ds.drop o).take m))[j]? = some u) : (n8 ds ++ ex)[o + j]? = some u := by
  have e : (n8 ((ds.drop o).take m))[j]? = if j < m then (n8 ds)[o + j]? else none := by
    simp only [n8, List.getElem?_map, List.getElem?_take, List.getElem?_drop]
    split <;> simp
  rw [e] at hu
  split at hu
  · rw [List.getElem?_append_left]
    · exact hu
    · rcases Nat.lt_or_ge (o + j) (n8 ds).length with h | h
      · exact h
      · rw [List.getElem?_eq_none h] at hu; cases hu
  · cases hu
theorem piece_src0 (ds : List Nat) (ex : List Value) (m : Nat) (j : Nat) (u : Value) (hu : (n8 (ds.take m))[j]? = some u) : (n8 ds ++ ex)[0 + j]? = some u := by
  have := piece_src ds ex 0 m j u (by rw [List.drop_zero]; exact hu)
  exact this

set_option maxRecDepth 100000 in
set_option maxHeartbeats 400000 in
theorem vram_at {W0 w : World} {p : Nat} {s : Pt} {l : Blks} (hs : s.Ok) (h : Hid (Own W0 w (Po p s :: l))) :
    Calls Try.prog 24 #[.pointer (some ⟨p, 0, none⟩)] w fun e w' => ∃ g cap ex, e = .returned (.slice (some ⟨g, 0, none⟩) 16384 cap) ∧ Hid (Own W0 w' ((g, 5, n8 s.vr ++ ex) :: Po p s :: l)) := by
  have HZ : Hid s.Sz := hs.sz
  have Z0 := Lib.hid hs.v
  have HM := h
  clear hs h
  go_enter Try.func24, Try.ntmps24
  go_wp2_with (go_at_call 32; (with_reducible refine (clone_at HM .z (Pt.src_vr HZ.out) (n8_one _) (by rw [n8_length]; exact Z0.out) (by decide) (by decide)).mono ?_); rintro e w' ⟨g1, c1, ex, rfl, HM1⟩)
  go_ret
  exact ⟨g1, c1, ex, rfl, HM1⟩
set_option maxRecDepth 100000 in
set_option maxHeartbeats 400000 in
theorem cram_at {W0 w : World} {p : Nat} {s : Pt} {l : Blks} (hs : s.Ok) (h : Hid (Own W0 w (Po p s :: l))) :
    Calls Try.prog 25 #[.pointer (some ⟨p, 0, none⟩)] w fun e w' => ∃ g cap ex, e = .returned (.slice (some ⟨g, 0, none⟩) 32 cap) ∧ Hid (Own W0 w' ((g, 5, n8 s.cr ++ ex) :: Po p s :: l)) := by
  have HZ : Hid s.Sz := hs.sz
  have Z0 := Lib.hid hs.c
  have HM := h
  clear hs h
  go_enter Try.func25, Try.ntmps25
  go_wp2_with (go_at_call 32; (with_reducible refine (clone_at HM .z (Pt.src_cr HZ.out) (n8_one _) (by rw [n8_length]; exact Z0.out) (by decide) (by decide)).mono ?_); rintro e w' ⟨g1, c1, ex, rfl, HM1⟩)
  go_ret
  exact ⟨g1, c1, ex, rfl, HM1⟩

set_option maxHeartbeats 400000 in
theorem right_nil (w : World) : Calls Try.prog 27 #[.slice none 0 0] w fun e w' => e = .returned (.bool false) ∧ w = w' := by
  go_enter Try.func27, Try.ntmps27
  go_wp2
  go_ret
  exact ⟨rfl, rfl⟩
set_option maxHeartbeats 400000 in
theorem load_nil (p : Nat) (w : World) : Calls Try.prog 11 #[.pointer (some ⟨p, 0, none⟩), .slice none 0 0] w fun e w' => e = .returned (.int .i64 131) ∧ w = w' := by
  go_enter Try.func11, Try.ntmps11
  go_wp2_with (go_at_call 27; (with_reducible refine (right_nil _).mono ?_); rintro e w' ⟨rfl, rfl⟩)
  go_ret
  exact ⟨rfl, rfl⟩
set_option maxHeartbeats 400000 in
theorem load_bad {W0 w : World} {p : Nat} {l : Blks} {gd cap : Nat} {ds : List Nat} {ex : List Value} (h : Hid (Own W0 w l)) (hsel : Sel l gd 5 (n8 ds ++ ex)) (hl : ds.length = 16433) (hcap : 16433 ≤ cap) (h8 : Lt 256 ds) (hb : ¬ Pt.Right ds) :
    Calls Try.prog 11 #[.pointer (some ⟨p, 0, none⟩), .slice (some ⟨gd, 0, none⟩) 16433 cap] w fun e w' => e = .returned (.int .i64 131) ∧ w = w' := by
  have HB : Hid (false = true ↔ Pt.Right ds) := ⟨(fun h => by cases h), fun h => absurd h hb⟩
  go_enter Try.func11, Try.ntmps11
  go_wp2_with (go_at_call 27; (with_reducible refine (right_at h hsel hl hcap h8 false HB).mono ?_); rintro e w' ⟨rfl, rfl⟩)
  go_ret
  exact ⟨rfl, rfl⟩


/-- the piece of a port that a Load lays, before the single bytes -/
abbrev Pt.laid (s : Pt) (A C G : List Nat) : Pt := { s with vr := A, cr := C, rg := G }
set_option maxRecDepth 100000 in
set_option maxHeartbeats 1600000 in
theorem load_good {W0 w : World} {p : Nat} {s : Pt} {l : Blks} {gd cap : Nat} {ds : List Nat} {ex : List Value} (hs : s.Ok) (h : Hid (Own W0 w (Po p s :: l))) (hsel : Sel l gd 5 (n8 ds ++ ex)) (hl : ds.length = 16433) (hcap : 16433 ≤ cap) (h8 : Lt 256 ds) (hr : Pt.Right ds) :
    Calls Try.prog 11 #[.pointer (some ⟨p, 0, none⟩), .slice (some ⟨gd, 0, none⟩) 16433 cap] w fun e w' => e = .returned (.int .i64 0) ∧ Hid (Own W0 w' (Po p (.load ds) :: l)) := by
  have hget : ∀ i, i < 16433 → (n8 ds ++ ex)[i]? = some (.int .u8 ((ds.getD i 0 : Nat) : Int)) := fun i hi => by
    rw [List.getElem?_append_left (by simp [hl]; omega), n8_get _ _ (by omega)]
  obtain ⟨x0, e0⟩ : ∃ x, x = ds.getD 16427 0 := ⟨_, rfl⟩
  obtain ⟨x1, e1⟩ : ∃ x, x = ds.getD 16428 0 := ⟨_, rfl⟩
  obtain ⟨x2, e2⟩ : ∃ x, x = ds.getD 16429 0 := ⟨_, rfl⟩
  obtain ⟨x3, e3⟩ : ∃ x, x = ds.getD 16430 0 := ⟨_, rfl⟩
  obtain ⟨x4, e4⟩ : ∃ x, x = ds.getD 16431 0 := ⟨_, rfl⟩
  obtain ⟨x5, e5⟩ : ∃ x, x = ds.getD 16432 0 := ⟨_, rfl⟩
  have HB0 : Hid ((n8 ds ++ ex)[16427]? = some (.int .u8 (x0 : Int))) := by rw [e0]; exact hget _ (by omega)
  have HB1 : Hid ((n8 ds ++ ex)[16428]? = some (.int .u8 (x1 : Int))) := by rw [e1]; exact hget _ (by omega)
  have HB2 : Hid ((n8 ds ++ ex)[16429]? = some (.int .u8 (x2 : Int))) := by rw [e2]; exact hget _ (by omega)
  have HB3 : Hid ((n8 ds ++ ex)[16430]? = some (.int .u8 (x3 : Int))) := by rw [e3]; exact hget _ (by omega)
  have HB4 : Hid ((n8 ds ++ ex)[16431]? = some (.int .u8 (x4 : Int))) := by rw [e4]; exact hget _ (by omega)
  have HB5 : Hid ((n8 ds ++ ex)[16432]? = some (.int .u8 (x5 : Int))) := by rw [e5]; exact hget _ (by omega)
  obtain ⟨A, hA⟩ : ∃ A, A = ds.take 16384 := ⟨_, rfl⟩
  obtain ⟨C, hC⟩ : ∃ C, C = (ds.drop 16384).take 32 := ⟨_, rfl⟩
  obtain ⟨G, hG⟩ : ∃ G, G = (ds.drop 16416).take 11 := ⟨_, rfl⟩
  have SA : Hid (∀ (j : Nat) (u : Value), (n8 A)[j]? = some u → (n8 ds ++ ex)[0 + j]? = some u) := by rw [hA]; exact piece_src0 ds ex 16384
  have SC : Hid (∀ (j : Nat) (u : Value), (n8 C)[j]? = some u → (n8 ds ++ ex)[16384 + j]? = some u) := by rw [hC]; exact piece_src ds ex 16384 32
  have SG : Hid (∀ (j : Nat) (u : Value), (n8 G)[j]? = some u → (n8 ds ++ ex)[16416 + j]? = some u) := by rw [hG]; exact piece_src ds ex 16416 11
  have LA : Hid (A.length = 16384) := by rw [hA]; show _ = _; simp [hl]
  have LC : Hid (C.length = 32) := by rw [hC]; show _ = _; simp [hl]
  have LG : Hid (G.length = 11) := by rw [hG]; show _ = _; simp [hl]
  have y0 : x0 < 256 := by rw [e0]; exact h8.getD (by decide) _
  have y1 : x1 < 64 := by rw [e1]; exact hr.2.2.1
  have y2 : x2 < 4 := by rw [e2]; exact hr.2.2.2.1
  have y3 : x3 < 256 := by rw [e3]; exact h8.getD (by decide) _
  have y4 : x4 < 2 := by rw [e4]; exact hr.2.2.2.2
  have y5 : x5 < 256 := by rw [e5]; exact h8.getD (by decide) _
  have HE : Hid (Pt.load ds = ⟨A, C, G, x0 + 256 * x1, x2, x3, decide (x4 = 1), x5⟩) := by unfold Pt.load; rw [hA, hC, hG, e0, e1, e2, e3, e4, e5]; rfl
  have HO3 : Hid ((s.laid A C G).Ok) := ⟨LA.out, LC.out, LG.out, by rw [hA]; exact h8.take _, by rw [hC]; exact hr.2.1, by rw [hG]; exact (h8.drop _).take _, hs.ad, hs.co, hs.lo, hs.bu⟩
  have HR : Hid (true = true ↔ Pt.Right ds) := ⟨fun _ => hr, fun _ => rfl⟩
  have HM := h
  have HZ : Hid s.Sz := hs.sz
  have hc1 : ¬ cap = 16384 := by omega
  have hc2 : ¬ cap = 16416 := by omega
  have HS := Lib.hid hsel
  have HL := Lib.hid hl
  have H8 := Lib.hid h8
  rw [HE.out]
  clear h hs hsel hl h8 hr hget e0 e1 e2 e3 e4 e5 hA hC hG HE
  go_enter Try.func11, Try.ntmps11
  go_upto_region 4 with (first
    | (go_at_call 27; (with_reducible refine (right_at HM (.s HS.out) HL.out hcap H8.out true HR).mono ?_); rintro e w' ⟨rfl, rfl⟩)
    | ((with_reducible refine own_copies (n := 16384) HM .z (.s HS.out) .z (Pt.splice_vr HZ.out A LA.out) rfl rfl rfl SA.out (n8_one _) (by rw [n8_length]; exact LA.out) (by decide) (by rw [Pt.cells_length HZ.out]; decide) rfl ?_); intro w' HM'; clear HM; have HM := HM'; clear HM'))
  have HZ1 : Hid ((s.withVr A).Sz) := ⟨LA.out, HZ.out.2.1, HZ.out.2.2⟩
  clear HZ
  have HZ := HZ1
  clear HZ1
  (refine own_tail 6 HM (by kernel_rfl) (by kernel_rfl) (by kernel_rfl) ?_; simp only [List.take_succ_cons, List.take_zero, List.drop_succ_cons, List.drop_zero]; (try simp only [Act.put, List.setIfInBounds_toArray, List.set_cons_zero, List.set_cons_succ]); repeat ((fail_if_success (with_reducible refine wpQuiet_nil ?_)); first | go_big_quiet_skip | (go_big_quiet_want; first | ((with_reducible apply quiet_get); exact rfl; (first | (with_reducible exact oneU8) | (with_reducible exact oneU16) | (with_reducible exact oneBool) | (with_reducible exact oneInt) | (with_reducible exact oneBs)); (first | with_reducible exact .z | with_reducible exact .s .z | with_reducible exact .s (.s .z) | with_reducible exact .s (.s (.s .z)) | with_reducible exact .s (.s (.s (.s .z))) | with_reducible exact .s (.s (.s (.s (.s .z)))) | (with_reducible exact Sel.s HS.out)); (first | (with_reducible exact HB0.out) | (with_reducible exact HB1.out) | (with_reducible exact HB2.out) | (with_reducible exact HB3.out) | (with_reducible exact HB4.out) | (with_reducible exact HB5.out) | (with_reducible exact Pt.at_se' (by first | (with_reducible exact HZ.out) | (focus (obtain ⟨hz1, hz2, hz3⟩ := HZ.out; exact ⟨by simpa using hz1, by simpa using hz2, by simpa using hz3⟩))) (by assumption)) | (with_reducible exact Pt.at_co' (by first | (with_reducible exact HZ.out) | (focus (obtain ⟨hz1, hz2, hz3⟩ := HZ.out; exact ⟨by simpa using hz1, by simpa using hz2, by simpa using hz3⟩))) (by assumption)) | (with_reducible exact Pt.r_se' (by assumption)) | (with_reducible exact Pt.r_co' (by assumption)) | (with_reducible exact Pt.at_ad (by first | (with_reducible exact HZ.out) | (focus (obtain ⟨hz1, hz2, hz3⟩ := HZ.out; exact ⟨by simpa using hz1, by simpa using hz2, by simpa using hz3⟩)))) | (with_reducible exact Pt.at_co (by first | (with_reducible exact HZ.out) | (focus (obtain ⟨hz1, hz2, hz3⟩ := HZ.out; exact ⟨by simpa using hz1, by simpa using hz2, by simpa using hz3⟩)))) | (with_reducible exact Pt.at_lo (by first | (with_reducible exact HZ.out) | (focus (obtain ⟨hz1, hz2, hz3⟩ := HZ.out; exact ⟨by simpa using hz1, by simpa using hz2, by simpa using hz3⟩)))) | (with_reducible exact Pt.at_se (by first | (with_reducible exact HZ.out) | (focus (obtain ⟨hz1, hz2, hz3⟩ := HZ.out; exact ⟨by simpa using hz1, by simpa using hz2, by simpa using hz3⟩)))) | (with_reducible exact Pt.at_bu (by first | (with_reducible exact HZ.out) | (focus (obtain ⟨hz1, hz2, hz3⟩ := HZ.out; exact ⟨by simpa using hz1, by simpa using hz2, by simpa using hz3⟩)))) | (with_reducible exact Pt.at_vr (by first | (with_reducible exact HZ.out) | (focus (obtain ⟨hz1, hz2, hz3⟩ := HZ.out; exact ⟨by simpa using hz1, by simpa using hz2, by simpa using hz3⟩))) (by omega)) | (with_reducible exact Pt.at_rg (by first | (with_reducible exact HZ.out) | (focus (obtain ⟨hz1, hz2, hz3⟩ := HZ.out; exact ⟨by simpa using hz1, by simpa using hz2, by simpa using hz3⟩))) (by omega)) | (with_reducible exact Pt.r_vr) | (with_reducible exact Pt.r_cr) | (with_reducible exact Pt.r_rg) | (with_reducible exact Pt.r_ad) | (with_reducible exact Pt.r_co) | (with_reducible exact Pt.r_lo) | (with_reducible exact Pt.r_bu) | (with_reducible exact Pt.r_se) | (with_reducible exact n8_get' _ _ (by obtain ⟨hz1, hz2, hz3⟩ := HZ.out; omega) hX.out) | (with_reducible exact n8_get _ _ (by obtain ⟨hz1, hz2, hz3⟩ := HZ.out; omega))); go_big_quiet_op; go_big_quiet_on) | (go_big_quiet_op; go_big_quiet_on) | (go_big_quiet_op; refine ⟨_, fun _ _ => rfl, ?_⟩; go_big_quiet_on))))
  refine wpQuiet_nil ?_
  intro w' HM'
  clear HM; have HM := HM'; clear HM'
  go_upto_region 5 with ((with_reducible refine own_copies (n := 32) HM .z (.s HS.out) .z (Pt.splice_cr HZ.out C LC.out) rfl rfl rfl SC.out (n8_one _) (by rw [n8_length]; exact LC.out) (by decide) (by rw [Pt.cells_length HZ.out]; decide) rfl ?_); intro w' HM'; clear HM; have HM := HM'; clear HM')
  have HZ1 : Hid (((s.withVr A).withCr C).Sz) := ⟨LA.out, LC.out, HZ.out.2.2⟩
  clear HZ
  have HZ := HZ1
  clear HZ1
  (refine own_tail 6 HM (by kernel_rfl) (by kernel_rfl) (by kernel_rfl) ?_; simp only [List.take_succ_cons, List.take_zero, List.drop_succ_cons, List.drop_zero]; (try simp only [Act.put, List.setIfInBounds_toArray, List.set_cons_zero, List.set_cons_succ]); repeat ((fail_if_success (with_reducible refine wpQuiet_nil ?_)); first | go_big_quiet_skip | (go_big_quiet_want; first | ((with_reducible apply quiet_get); exact rfl; (first | (with_reducible exact oneU8) | (with_reducible exact oneU16) | (with_reducible exact oneBool) | (with_reducible exact oneInt) | (with_reducible exact oneBs)); (first | with_reducible exact .z | with_reducible exact .s .z | with_reducible exact .s (.s .z) | with_reducible exact .s (.s (.s .z)) | with_reducible exact .s (.s (.s (.s .z))) | with_reducible exact .s (.s (.s (.s (.s .z)))) | (with_reducible exact Sel.s HS.out)); (first | (with_reducible exact HB0.out) | (with_reducible exact HB1.out) | (with_reducible exact HB2.out) | (with_reducible exact HB3.out) | (with_reducible exact HB4.out) | (with_reducible exact HB5.out) | (with_reducible exact Pt.at_se' (by first | (with_reducible exact HZ.out) | (focus (obtain ⟨hz1, hz2, hz3⟩ := HZ.out; exact ⟨by simpa using hz1, by simpa using hz2, by simpa using hz3⟩))) (by assumption)) | (with_reducible exact Pt.at_co' (by first | (with_reducible exact HZ.out) | (focus (obtain ⟨hz1, hz2, hz3⟩ := HZ.out; exact ⟨by simpa using hz1, by simpa using hz2, by simpa using hz3⟩))) (by assumption)) | (with_reducible exact Pt.r_se' (by assumption)) | (with_reducible exact Pt.r_co' (by assumption)) | (with_reducible exact Pt.at_ad (by first | (with_reducible exact HZ.out) | (focus (obtain ⟨hz1, hz2, hz3⟩ := HZ.out; exact ⟨by simpa using hz1, by simpa using hz2, by simpa using hz3⟩)))) | (with_reducible exact Pt.at_co (by first | (with_reducible exact HZ.out) | (focus (obtain ⟨hz1, hz2, hz3⟩ := HZ.out; exact ⟨by simpa using hz1, by simpa using hz2, by simpa using hz3⟩)))) | (with_reducible exact Pt.at_lo (by first | (with_reducible exact HZ.out) | (focus (obtain ⟨hz1, hz2, hz3⟩ := HZ.out; exact ⟨by simpa using hz1, by simpa using hz2, by simpa using hz3⟩)))) | (with_reducible exact Pt.at_se (by first | (with_reducible exact HZ.out) | (focus (obtain ⟨hz1, hz2, hz3⟩ := HZ.out; exact ⟨by simpa using hz1, by simpa using hz2, by simpa using hz3⟩)))) | (with_reducible exact Pt.at_bu (by first | (with_reducible exact HZ.out) | (focus (obtain ⟨hz1, hz2, hz3⟩ := HZ.out; exact ⟨by simpa using hz1, by simpa using hz2, by simpa using hz3⟩)))) | (with_reducible exact Pt.at_vr (by first | (with_reducible exact HZ.out) | (focus (obtain ⟨hz1, hz2, hz3⟩ := HZ.out; exact ⟨by simpa using hz1, by simpa using hz2, by simpa using hz3⟩))) (by omega)) | (with_reducible exact Pt.at_rg (by first | (with_reducible exact HZ.out) | (focus (obtain ⟨hz1, hz2, hz3⟩ := HZ.out; exact ⟨by simpa using hz1, by simpa using hz2, by simpa using hz3⟩))) (by omega)) | (with_reducible exact Pt.r_vr) | (with_reducible exact Pt.r_cr) | (with_reducible exact Pt.r_rg) | (with_reducible exact Pt.r_ad) | (with_reducible exact Pt.r_co) | (with_reducible exact Pt.r_lo) | (with_reducible exact Pt.r_bu) | (with_reducible exact Pt.r_se) | (with_reducible exact n8_get' _ _ (by obtain ⟨hz1, hz2, hz3⟩ := HZ.out; omega) hX.out) | (with_reducible exact n8_get _ _ (by obtain ⟨hz1, hz2, hz3⟩ := HZ.out; omega))); go_big_quiet_op; go_big_quiet_on) | (go_big_quiet_op; go_big_quiet_on) | (go_big_quiet_op; refine ⟨_, fun _ _ => rfl, ?_⟩; go_big_quiet_on))))
  refine wpQuiet_nil ?_
  intro w' HM'
  clear HM; have HM := HM'; clear HM'
  go_upto_region 6 with ((with_reducible refine own_copies (n := 11) HM .z (.s HS.out) .z (Pt.splice_rg HZ.out G LG.out) rfl rfl rfl SG.out (n8_one _) (by rw [n8_length]; exact LG.out) (by decide) (by rw [Pt.cells_length HZ.out]; decide) rfl ?_); intro w' HM'; clear HM; have HM := HM'; clear HM')
  have HZ1 : Hid ((s.laid A C G).Sz) := ⟨LA.out, LC.out, LG.out⟩
  clear HZ
  have HZ := HZ1
  clear HZ1
  replace HM : Hid (Own W0 _ (Po p (s.laid A C G) :: l)) := HM
  (refine own_tail 7 HM (by kernel_rfl) (by kernel_rfl) (by kernel_rfl) ?_; simp only [List.take_succ_cons, List.take_zero, List.drop_succ_cons, List.drop_zero]; (try simp only [Act.put, List.setIfInBounds_toArray, List.set_cons_zero, List.set_cons_succ]); repeat ((fail_if_success (with_reducible refine wpQuiet_nil ?_)); first | go_big_quiet_skip | (go_big_quiet_want; first | ((with_reducible apply quiet_get); exact rfl; (first | (with_reducible exact oneU8) | (with_reducible exact oneU16) | (with_reducible exact oneBool) | (with_reducible exact oneInt) | (with_reducible exact oneBs)); (first | with_reducible exact .z | with_reducible exact .s .z | with_reducible exact .s (.s .z) | with_reducible exact .s (.s (.s .z)) | with_reducible exact .s (.s (.s (.s .z))) | with_reducible exact .s (.s (.s (.s (.s .z)))) | (with_reducible exact Sel.s HS.out)); (first | (with_reducible exact HB0.out) | (with_reducible exact HB1.out) | (with_reducible exact HB2.out) | (with_reducible exact HB3.out) | (with_reducible exact HB4.out) | (with_reducible exact HB5.out) | (with_reducible exact Pt.at_se' (by first | (with_reducible exact HZ.out) | (focus (obtain ⟨hz1, hz2, hz3⟩ := HZ.out; exact ⟨by simpa using hz1, by simpa using hz2, by simpa using hz3⟩))) (by assumption)) | (with_reducible exact Pt.at_co' (by first | (with_reducible exact HZ.out) | (focus (obtain ⟨hz1, hz2, hz3⟩ := HZ.out; exact ⟨by simpa using hz1, by simpa using hz2, by simpa using hz3⟩))) (by assumption)) | (with_reducible exact Pt.r_se' (by assumption)) | (with_reducible exact Pt.r_co' (by assumption)) | (with_reducible exact Pt.at_ad (by first | (with_reducible exact HZ.out) | (focus (obtain ⟨hz1, hz2, hz3⟩ := HZ.out; exact ⟨by simpa using hz1, by simpa using hz2, by simpa using hz3⟩)))) | (with_reducible exact Pt.at_co (by first | (with_reducible exact HZ.out) | (focus (obtain ⟨hz1, hz2, hz3⟩ := HZ.out; exact ⟨by simpa using hz1, by simpa using hz2, by simpa using hz3⟩)))) | (with_reducible exact Pt.at_lo (by first | (with_reducible exact HZ.out) | (focus (obtain ⟨hz1, hz2, hz3⟩ := HZ.out; exact ⟨by simpa using hz1, by simpa using hz2, by simpa using hz3⟩)))) | (with_reducible exact Pt.at_se (by first | (with_reducible exact HZ.out) | (focus (obtain ⟨hz1, hz2, hz3⟩ := HZ.out; exact ⟨by simpa using hz1, by simpa using hz2, by simpa using hz3⟩)))) | (with_reducible exact Pt.at_bu (by first | (with_reducible exact HZ.out) | (focus (obtain ⟨hz1, hz2, hz3⟩ := HZ.out; exact ⟨by simpa using hz1, by simpa using hz2, by simpa using hz3⟩)))) | (with_reducible exact Pt.at_vr (by first | (with_reducible exact HZ.out) | (focus (obtain ⟨hz1, hz2, hz3⟩ := HZ.out; exact ⟨by simpa using hz1, by simpa using hz2, by simpa using hz3⟩))) (by omega)) | (with_reducible exact Pt.at_rg (by first | (with_reducible exact HZ.out) | (focus (obtain ⟨hz1, hz2, hz3⟩ := HZ.out; exact ⟨by simpa using hz1, by simpa using hz2, by simpa using hz3⟩))) (by omega)) | (with_reducible exact Pt.r_vr) | (with_reducible exact Pt.r_cr) | (with_reducible exact Pt.r_rg) | (with_reducible exact Pt.r_ad) | (with_reducible exact Pt.r_co) | (with_reducible exact Pt.r_lo) | (with_reducible exact Pt.r_bu) | (with_reducible exact Pt.r_se) | (with_reducible exact n8_get' _ _ (by obtain ⟨hz1, hz2, hz3⟩ := HZ.out; omega) hX.out) | (with_reducible exact n8_get _ _ (by obtain ⟨hz1, hz2, hz3⟩ := HZ.out; omega))); go_big_quiet_op; go_big_quiet_on) | (go_big_quiet_op; go_big_quiet_on) | (go_big_quiet_op; refine ⟨_, fun _ _ => rfl, ?_⟩; go_big_quiet_on))))
  refine wpQuiet_nil ?_
  intro w' HM'
  clear HM; have HM := HM'; clear HM'
  rcases (show x4 = 0 ∨ x4 = 1 by omega) with rfl | rfl
  all_goals
    go_wp2_with (first
      | ((with_reducible apply own_get HM); exact rfl; exact rfl; (first | (with_reducible exact oneU8) | (with_reducible exact oneU16) | (with_reducible exact oneBool) | (with_reducible exact oneInt) | (with_reducible exact oneBs)); (first | with_reducible exact .z | with_reducible exact .s .z | with_reducible exact .s (.s .z) | with_reducible exact .s (.s (.s .z)) | with_reducible exact .s (.s (.s (.s .z))) | with_reducible exact .s (.s (.s (.s (.s .z)))) | (with_reducible exact Sel.s HS.out)); (first | (with_reducible exact HB0.out) | (with_reducible exact HB1.out) | (with_reducible exact HB2.out) | (with_reducible exact HB3.out) | (with_reducible exact HB4.out) | (with_reducible exact HB5.out) | (with_reducible exact Pt.at_se' (by first | (with_reducible exact HZ.out) | (focus (obtain ⟨hz1, hz2, hz3⟩ := HZ.out; exact ⟨by simpa using hz1, by simpa using hz2, by simpa using hz3⟩))) (by assumption)) | (with_reducible exact Pt.at_co' (by first | (with_reducible exact HZ.out) | (focus (obtain ⟨hz1, hz2, hz3⟩ := HZ.out; exact ⟨by simpa using hz1, by simpa using hz2, by simpa using hz3⟩))) (by assumption)) | (with_reducible exact Pt.r_se' (by assumption)) | (with_reducible exact Pt.r_co' (by assumption)) | (with_reducible exact Pt.at_ad (by first | (with_reducible exact HZ.out) | (focus (obtain ⟨hz1, hz2, hz3⟩ := HZ.out; exact ⟨by simpa using hz1, by simpa using hz2, by simpa using hz3⟩)))) | (with_reducible exact Pt.at_co (by first | (with_reducible exact HZ.out) | (focus (obtain ⟨hz1, hz2, hz3⟩ := HZ.out; exact ⟨by simpa using hz1, by simpa using hz2, by simpa using hz3⟩)))) | (with_reducible exact Pt.at_lo (by first | (with_reducible exact HZ.out) | (focus (obtain ⟨hz1, hz2, hz3⟩ := HZ.out; exact ⟨by simpa using hz1, by simpa using hz2, by simpa using hz3⟩)))) | (with_reducible exact Pt.at_se (by first | (with_reducible exact HZ.out) | (focus (obtain ⟨hz1, hz2, hz3⟩ := HZ.out; exact ⟨by simpa using hz1, by simpa using hz2, by simpa using hz3⟩)))) | (with_reducible exact Pt.at_bu (by first | (with_reducible exact HZ.out) | (focus (obtain ⟨hz1, hz2, hz3⟩ := HZ.out; exact ⟨by simpa using hz1, by simpa using hz2, by simpa using hz3⟩)))) | (with_reducible exact Pt.at_vr (by first | (with_reducible exact HZ.out) | (focus (obtain ⟨hz1, hz2, hz3⟩ := HZ.out; exact ⟨by simpa using hz1, by simpa using hz2, by simpa using hz3⟩))) (by omega)) | (with_reducible exact Pt.at_rg (by first | (with_reducible exact HZ.out) | (focus (obtain ⟨hz1, hz2, hz3⟩ := HZ.out; exact ⟨by simpa using hz1, by simpa using hz2, by simpa using hz3⟩))) (by omega)) | (with_reducible exact Pt.r_vr) | (with_reducible exact Pt.r_cr) | (with_reducible exact Pt.r_rg) | (with_reducible exact Pt.r_ad) | (with_reducible exact Pt.r_co) | (with_reducible exact Pt.r_lo) | (with_reducible exact Pt.r_bu) | (with_reducible exact Pt.r_se) | (with_reducible exact n8_get' _ _ (by obtain ⟨hz1, hz2, hz3⟩ := HZ.out; omega) hX.out) | (with_reducible exact n8_get _ _ (by obtain ⟨hz1, hz2, hz3⟩ := HZ.out; omega))); exact rfl; all_goals skip) | ((with_reducible apply po_put HM); exact rfl; exact rfl; (conv => lhs; whnf); (first | with_reducible exact .z | with_reducible exact .s .z | with_reducible exact .s (.s .z) | with_reducible exact .s (.s (.s .z)) | with_reducible exact .s (.s (.s (.s .z))) | with_reducible exact .s (.s (.s (.s (.s .z))))); (first | (with_reducible exact Pt.set_ad _ (by first | (with_reducible exact HZ.out) | (focus (obtain ⟨hz1, hz2, hz3⟩ := HZ.out; exact ⟨by simpa using hz1, by simpa using hz2, by simpa using hz3⟩)))) | (with_reducible exact Pt.set_co _ (by first | (with_reducible exact HZ.out) | (focus (obtain ⟨hz1, hz2, hz3⟩ := HZ.out; exact ⟨by simpa using hz1, by simpa using hz2, by simpa using hz3⟩)))) | (with_reducible exact Pt.set_lo _ (by first | (with_reducible exact HZ.out) | (focus (obtain ⟨hz1, hz2, hz3⟩ := HZ.out; exact ⟨by simpa using hz1, by simpa using hz2, by simpa using hz3⟩)))) | (with_reducible exact Pt.set_se _ (by first | (with_reducible exact HZ.out) | (focus (obtain ⟨hz1, hz2, hz3⟩ := HZ.out; exact ⟨by simpa using hz1, by simpa using hz2, by simpa using hz3⟩)))) | (with_reducible exact Pt.set_bu _ (by first | (with_reducible exact HZ.out) | (focus (obtain ⟨hz1, hz2, hz3⟩ := HZ.out; exact ⟨by simpa using hz1, by simpa using hz2, by simpa using hz3⟩)))) | (with_reducible exact Pt.set_vr _ _ (by first | (with_reducible exact HZ.out) | (focus (obtain ⟨hz1, hz2, hz3⟩ := HZ.out; exact ⟨by simpa using hz1, by simpa using hz2, by simpa using hz3⟩))) (by omega)) | (with_reducible exact Pt.set_cr _ _ (by first | (with_reducible exact HZ.out) | (focus (obtain ⟨hz1, hz2, hz3⟩ := HZ.out; exact ⟨by simpa using hz1, by simpa using hz2, by simpa using hz3⟩))) (by omega)) | (with_reducible exact Pt.set_rg _ _ (by first | (with_reducible exact HZ.out) | (focus (obtain ⟨hz1, hz2, hz3⟩ := HZ.out; exact ⟨by simpa using hz1, by simpa using hz2, by simpa using hz3⟩))) (by omega)) | (with_reducible exact Pt.rset_ad _) | (with_reducible exact Pt.rset_co _) | (with_reducible exact Pt.rset_lo _) | (with_reducible exact Pt.rset_bu _) | (with_reducible exact Pt.rset_se _) | (with_reducible exact n8_set _ _ _) | (with_reducible exact Pt.set_ad' (by first | (with_reducible exact HZ.out) | (focus (obtain ⟨hz1, hz2, hz3⟩ := HZ.out; exact ⟨by simpa using hz1, by simpa using hz2, by simpa using hz3⟩))) (by assumption)) | (with_reducible exact Pt.set_co' (by first | (with_reducible exact HZ.out) | (focus (obtain ⟨hz1, hz2, hz3⟩ := HZ.out; exact ⟨by simpa using hz1, by simpa using hz2, by simpa using hz3⟩))) (by assumption)) | (with_reducible exact Pt.set_lo' (by first | (with_reducible exact HZ.out) | (focus (obtain ⟨hz1, hz2, hz3⟩ := HZ.out; exact ⟨by simpa using hz1, by simpa using hz2, by simpa using hz3⟩))) (by assumption)) | (with_reducible exact Pt.set_bu' (by first | (with_reducible exact HZ.out) | (focus (obtain ⟨hz1, hz2, hz3⟩ := HZ.out; exact ⟨by simpa using hz1, by simpa using hz2, by simpa using hz3⟩))) (by assumption)) | (with_reducible exact Pt.rset_ad' (by assumption))  | (with_reducible exact Pt.rset_co' (by assumption))  | (with_reducible exact Pt.rset_lo' (by assumption))  | (with_reducible exact Pt.rset_bu' (by assumption))  | (with_reducible exact Pt.rset_se' (by assumption)) | (with_reducible exact Pt.set_co' (v := 0) (by first | (with_reducible exact HZ.out) | (focus (obtain ⟨hz1, hz2, hz3⟩ := HZ.out; exact ⟨by simpa using hz1, by simpa using hz2, by simpa using hz3⟩))) (by decide)) | (with_reducible exact Pt.rset_co' (v := 0) (by decide))  | (with_reducible exact Pt.set_co' (v := 1) (by first | (with_reducible exact HZ.out) | (focus (obtain ⟨hz1, hz2, hz3⟩ := HZ.out; exact ⟨by simpa using hz1, by simpa using hz2, by simpa using hz3⟩))) (by decide)) | (with_reducible exact Pt.rset_co' (v := 1) (by decide))  | (with_reducible exact Pt.set_co' (v := 2) (by first | (with_reducible exact HZ.out) | (focus (obtain ⟨hz1, hz2, hz3⟩ := HZ.out; exact ⟨by simpa using hz1, by simpa using hz2, by simpa using hz3⟩))) (by decide)) | (with_reducible exact Pt.rset_co' (v := 2) (by decide))  | (with_reducible exact Pt.set_co' (v := 3) (by first | (with_reducible exact HZ.out) | (focus (obtain ⟨hz1, hz2, hz3⟩ := HZ.out; exact ⟨by simpa using hz1, by simpa using hz2, by simpa using hz3⟩))) (by decide)) | (with_reducible exact Pt.rset_co' (v := 3) (by decide)) | (with_reducible exact Pt.set_vr' _ (by first | (with_reducible exact HZ.out) | (focus (obtain ⟨hz1, hz2, hz3⟩ := HZ.out; exact ⟨by simpa using hz1, by simpa using hz2, by simpa using hz3⟩))) (by omega) (by assumption)) | (with_reducible exact Pt.set_cr' _ (by first | (with_reducible exact HZ.out) | (focus (obtain ⟨hz1, hz2, hz3⟩ := HZ.out; exact ⟨by simpa using hz1, by simpa using hz2, by simpa using hz3⟩))) (by omega) (by assumption)) | (with_reducible exact Pt.set_rg' _ (by first | (with_reducible exact HZ.out) | (focus (obtain ⟨hz1, hz2, hz3⟩ := HZ.out; exact ⟨by simpa using hz1, by simpa using hz2, by simpa using hz3⟩))) (by omega) (by assumption)) | (with_reducible exact n8_set' _ _ (by assumption))); (first | with_reducible exact .z | with_reducible exact .s .z | with_reducible exact .s (.s .z) | with_reducible exact .s (.s (.s .z)) | with_reducible exact .s (.s (.s (.s .z))) | with_reducible exact .s (.s (.s (.s (.s .z))))); (first | (with_reducible exact oneU8.size) | (with_reducible exact oneU16.size) | (with_reducible exact oneBool.size) | (with_reducible exact oneInt.size)); exact rfl; exact rfl; (first | (focus (rw [Pt.cells_length (by first | (with_reducible exact HZ.out) | (focus (obtain ⟨hz1, hz2, hz3⟩ := HZ.out; exact ⟨by simpa using hz1, by simpa using hz2, by simpa using hz3⟩)))]; omega)) | (show (_ : Nat) < 8; decide) | (focus (rw [n8_length]; obtain ⟨hz1, hz2, hz3⟩ := HZ.out; omega))); exact rfl; intro w' HM'; clear HM; have HM := HM'; clear HM'; all_goals skip)
      | (go_at_call 28; (with_reducible refine (point_at x1 x0 (by omega) y0 HO3.out HM).mono ?_); rintro e w' ⟨rfl, HM'⟩; clear HM; have HM := HM'; clear HM'))
    go_ret
    refine ⟨rfl, ?_⟩
    rw [Nat.add_comm, Nat.mul_comm]
    exact HM

end Go.Proofs.Ytbjghlcdbmooaaa
