/-
  The law RomRuns returns true for every piece and all places, and writes nothing that was there.
-/
import Derived.Test.YtdgejcbnjelgkaaRomKeeps
import Derived.Test.YtdgejcbnjelgkaaRomRefNew
import Derived.Deep.CutRange
namespace Go.Proofs.Ytdgejcbnjelgkaa
open Go.RowKit

/-- a slice of pairs that came in -/
def Pairs (w : World) (B : Nat) (a : Option Addr) (n : Nat) (ps : Nat → Int × Int) : Prop :=
  0 < n → ∃ g o, a = some ⟨g, o, none⟩ ∧ g < B ∧ ∀ i, i < n → w.cell? ⟨g, o + i * 2, none⟩ = some (.int .i64 (ps i).1) ∧ w.cell? ⟨g, o + i * 2 + 1, none⟩ = some (.int .i64 (ps i).2)
theorem Pairs.under {w w' : World} {B n : Nat} {a : Option Addr} {ps : Nat → Int × Int} (h : Pairs w B a n ps) (hb : Below B w w') : Pairs w' B a n ps := fun hn => by
  obtain ⟨g, o, e, hg, hc⟩ := h hn
  exact ⟨g, o, e, hg, fun i hi => ⟨(hb.cell (p := ⟨g, o + i * 2, none⟩) hg).trans (hc i hi).1, (hb.cell (p := ⟨g, o + i * 2 + 1, none⟩) hg).trans (hc i hi).2⟩⟩

theorem text_any {w : World} {B : Nat} {T g o n c : Nat} {zs : List Int} (hT : Try.prog.underlying T = some (.slice 5)) (h : Bytes w B (some ⟨g, o, none⟩) n zs) :
    (convert T 9 (.slice (some ⟨g, o, none⟩) n c)).run Try.prog w = .ok (.string (strOfNums zs)) w :=
  run_convert_bytes_arg w T 5 hT Try.underlying5 g o n c zs h.1 (fun i hi => by
    obtain ⟨g', o', e, _, hc⟩ := h.2 (by omega)
    cases e
    exact hc i hi) 9 Try.underlying9

theorem own_copy {w : World} {base L : Nat} {v : Value} {bs : List Int} (h : w.ownsRow base 5 1 v (0 + L) (u8s [] ++ u8s bs)) (hn : v = .slice none 0 0 ↔ Value.slice (some ⟨base, 0, none⟩) 0 0 = .slice none 0 0 ∧ L = 0) :
    ∃ go c, v = .slice (some ⟨go, 0, none⟩) L c ∧ L ≤ c ∧ Bytes w w.heap.size (some ⟨go, 0, none⟩) L bs := by
  rw [Nat.zero_add] at h
  obtain ⟨A, c, rfl, hlc, hb⟩ := Bytes.ofOwn (zs := bs) (by simpa [u8s] using h)
  rcases h.2 with ⟨hv, h0⟩ | ⟨g, cap, cur, hv, _⟩
  · have := (hn.1 (by rw [hv])).1
    simp at this
  · injection hv with h1 h2 h3
    subst h1
    exact ⟨g, c, rfl, hlc, hb⟩

/-- the bytes, the cartridge over a copy of them, and the document's answer -/
def RunsAt (w W : World) (g g1 gr : Nat) (bs : List Int) : Prop :=
  RomAt W g1 (romOf bs) ∧ Whole W g 5 (u8s bs) ∧ Whole W gr 5 (u8s (romOf bs)) ∧ Below w.heap.size w W ∧ w.heap.size ≤ g1
section
variable {w W W' : World} {g g1 gr : Nat} {bs : List Int}
theorem RunsAt.rom (h : RunsAt w W g g1 gr bs) : RomAt W g1 (romOf bs) := h.1
theorem RunsAt.ref (h : RunsAt w W g g1 gr bs) : Whole W gr 5 (u8s (romOf bs)) := h.2.2.1
theorem RunsAt.below (h : RunsAt w W g g1 gr bs) (hb : Below W.heap.size W W') : RunsAt w W' g g1 gr bs :=
  ⟨h.1.next hb, h.2.1.next hb, h.2.2.1.next hb, below_next h.2.2.2.1 hb, h.2.2.2.2⟩
theorem RunsAt.sum (h : RunsAt w W g g1 gr bs) (hr : RomAt W' g1 (romOf bs) ∧ W.grownBy W' (some g1)) : RunsAt w W' g g1 gr bs := by
  obtain ⟨h1, h2, h3, h4, h5⟩ := h
  obtain ⟨d, h1⟩ := h1
  exact ⟨hr.1, h1.bytes h2 hr.2, h1.bytes h3 hr.2, below_row h4 hr.2 h5, h5⟩
theorem RunsAt.made {w1 w2 w3 w4 w5 : World} {o : Obj} (hb1 : Below (w.alloc o).heap.size (w.alloc o) w1) (hb2 : Below w1.heap.size w1 w2) (hw2 : Whole w2 g 5 (u8s bs))
    (hgr : (w2.alloc (.cells #[] 5)).grownBy w3 (Value.ownBlock (.slice (some ⟨w2.heap.size, 0, none⟩) 0 0))) (hg1 : w3.heap.size ≤ g1) (hb4 : Below w3.heap.size w3 w4) (hr4 : RomAt w4 g1 (romOf bs))
    (hb5 : Below w4.heap.size w4 w5) (hw5 : Whole w5 gr 5 (u8s (romOf bs))) : RunsAt w w5 g g1 gr bs := by
  have a3 : Below w2.heap.size w2 w3 := ((Below.refl _ _).alloc (Nat.le_refl _) _).grown hgr (by simp) (by intro k hk; simp [Value.ownBlock] at hk; omega)
  have b3 := below_next (below_next (below_next ((Below.refl _ w).alloc (Nat.le_refl _) o) hb1) hb2) a3
  have := b3.size
  exact ⟨hr4.next hb5, ((hw2.next a3).next hb4).next hb5, hw5, below_next (below_next b3 hb4) hb5, by omega⟩
end

theorem text_ref {w : World} {g R c : Nat} {zs : List Int} (hR : R = zs.length) (h : Whole w g 5 (u8s zs)) :
    (convert 32 9 (.slice (some ⟨g, 0, none⟩) R c)).run Try.prog w = .ok (.string (strOfNums zs)) w := by
  subst hR
  exact text_any Try.underlying32 (Bytes.ofWhole h)
theorem ref_bytes {w : World} {g R : Nat} {zs : List Int} (hR : R = zs.length) (h : Whole w g 5 (u8s zs)) : Bytes w w.heap.size (some ⟨g, 0, none⟩) R zs := by
  subst hR
  exact Bytes.ofWhole h
theorem runs_grow {w2 w3 : World} (hgr : (w2.alloc (.cells #[] 5)).grownBy w3 (Value.ownBlock (.slice (some ⟨w2.heap.size, 0, none⟩) 0 0))) : Below w2.heap.size w2 w3 :=
  ((Below.refl _ _).alloc (Nat.le_refl _) _).grown hgr (by simp) (by intro k hk; simp [Value.ownBlock] at hk; omega)

theorem romOf_bytes (bs : List Int) (h : InByte bs) : InByte (romOf bs) := by
  intro z hz
  rw [romOf, List.mem_append, List.mem_replicate] at hz
  rcases hz with hz | ⟨_, rfl⟩
  · exact h z hz
  · omega
theorem built_bytes (zs : List Int) (m p x : Int) (hz : InByte zs) (hx : 0 ≤ x ∧ x < 256) : InByte (built zs m p x) := by
  have hp : ∀ i, 0 ≤ pick zs i ∧ pick zs i < 256 := by
    intro i
    rw [pick, List.getD_eq_getElem?_getD]
    rcases Nat.lt_or_ge (i % zs.length) zs.length with h | h
    · rw [List.getElem?_eq_getElem h]; exact hz _ (List.getElem_mem h)
    · rw [List.getElem?_eq_none h]; simp
  have hf : ∀ L k, InByte (fillTo zs L k) := by
    intro L k z hz
    rw [fillTo, List.mem_map] at hz
    obtain ⟨i, _, rfl⟩ := hz
    split
    · exact hp i
    · omega
  unfold built
  split
  · intro z hz
    rcases List.mem_or_eq_of_mem_set hz with h | rfl
    · exact hf _ _ z h
    · exact hx
  · exact hf _ _

set_option maxRecDepth 100000 in
set_option maxHeartbeats 3200000 in
theorem runs_short (a : Option Addr) (n cap : Nat) (zs : List Int) (m p x : Int) (a2 : Option Addr) (n2 cap2 : Nat) (ps : Nat → Int × Int) (w : World) (hb : Bytes w w.heap.size a n zs) (hp : Pairs w w.heap.size a2 n2 ps) (hz : InByte zs) (hx : 0 ≤ x ∧ x < 256) (hn : n ≤ 5000) (hn2 : n2 ≤ 60) :
    Calls Try.prog 4 #[.agg #[.slice a n cap, .int .i64 m, .int .i64 p, .int .u8 x], .slice a2 n2 cap2] w fun e w' => e = .returned (.bool true) ∧ Below w.heap.size w w' := by
  obtain ⟨i0, hi, hz0, hz1, hz2⟩ := info_parts u8_info
  have hn' : ¬ (5000 : Int) < (n : Int) := by omega
  have hn2' : ¬ (60 : Int) < (n2 : Int) := by omega
  have H0 : Hid (Whole (w.alloc (.cells #[.slice a n cap, .int .i64 m, .int .i64 p, .int .u8 x] 29)) w.heap.size 29 [.slice a n cap, .int .i64 m, .int .i64 p, .int .u8 x]) := Whole.fresh _ _ _
  have HB := Lib.hid hb
  have HP := Lib.hid hp
  clear hb hp
  obtain ⟨L, hL⟩ : ∃ L, L = (many m).toNat := ⟨_, rfl⟩
  obtain ⟨bs, hbs⟩ : ∃ bs, bs = built zs m p x := ⟨_, rfl⟩
  have hlen : bs.length = L := by rw [hbs, hL, built_length]
  have hL3 : L ≤ 300000 := by have := many_bd m; omega
  have HIn : Hid (InByte (romOf bs)) := by rw [hbs]; exact romOf_bytes _ (built_bytes zs m p x hz hx)
  have HL := Lib.hid hL
  have HS := Lib.hid hbs
  have HN := Lib.hid hlen
  clear hL hbs hlen hz hx
  obtain ⟨M, hM⟩ : ∃ M, M = bk L := ⟨_, rfl⟩
  have hF : RomFit (romOf bs) M := by rw [hM, ← HN.out]; exact romOf_fit bs (by rw [HN.out]; omega)
  have HF := Lib.hid hF
  obtain ⟨hM1, hM2⟩ := hF.bd
  obtain ⟨R, hR⟩ : ∃ R, R = (romOf bs).length := ⟨_, rfl⟩
  have hR1 : (R : Int) = M * 16384 := by rw [hR]; exact hF.2
  have hR2 : R ≤ 4194304 := by omega
  have HR := Lib.hid hR
  have HR1 := Lib.hid hR1
  have HM := Lib.hid hM
  clear hM hF hR hR1
  have tok1 : True := trivial
  go_enter Try.func4, Try.ntmps4
  go_wp2_with (first
    | (go_at_call 7; refine (alive_any _).mono ?_; rintro e w1 ⟨rfl, hb1⟩; have c0 : w1.cell? ⟨w.heap.size, 0, none⟩ = some (.slice a n cap) := (H0.out.next hb1).at_ 0; have c1 : w1.cell? ⟨w.heap.size, 1, none⟩ = some (.int .i64 m) := (H0.out.next hb1).at_ 1; have c2 : w1.cell? ⟨w.heap.size, 2, none⟩ = some (.int .i64 p) := (H0.out.next hb1).at_ 2; have c3 : w1.cell? ⟨w.heap.size, 3, none⟩ = some (.int .u8 x) := (H0.out.next hb1).at_ 3)
    | (go_at_call 11; refine (build_open a n cap zs bs m p x L HL.out HS.out _ ((HB.out.next ((Below.refl _ _).alloc (Nat.le_refl _) _)).next hb1) hn).mono ?_; rintro e w2 ⟨g, rfl, hg, hb2, hw2⟩; have HW2 := Lib.hid hw2; clear hw2 c0 c1 c2 c3)
    | (at_builtin; refine wpList_append_own _ rfl (.tmp 24) (.tmp 25) 25 rfl w2.heap.size 5 i0 (.int .u8 0) 1 1 Try.underlying25 hi hz0 hz1 hz2 rfl (by decide) _ 0 (u8s []) rfl (own_empty w2) ⟨g, 0, none⟩ L L (u8s bs) rfl (by rw [u8s_length, HN.out, Nat.mul_one]) (whole_news (HW2.out.beside _)) (u8s_one _) (by unfold maxLen; omega) (by omega) (by simp) ?_; intro v1 w3 ho1 hgr1 hnil; obtain ⟨go, cc, rfl, hcc, hB3⟩ := own_copy ho1 hnil; have HG1 := Lib.hid hgr1; have HB3 := Lib.hid hB3; clear ho1 hgr1 hnil hB3)
    | (go_at_call 8; refine (new_open _ L cc bs _ HB3.out (by omega) hcc).mono ?_; rintro e w4 ⟨g1, rfl, hg1, hb4, hr4⟩)
    | (go_at_call 12; refine (rnew_any _ L L bs M R HM.out HR1.out HR.out _ (by have h := Bytes.ofWhole ((HW2.out.next (runs_grow HG1.out)).next hb4); rwa [HN.out] at h) (by omega)).mono ?_; rintro e w5 ⟨gr, rfl, hgr, hb5, hw5⟩; have K5 : RunsAt w w5 g g1 gr bs := RunsAt.made hb1 hb2 HW2.out HG1.out hg1 hb4 hr4 hb5 hw5; have O5 : Hid (Bytes w5 w5.heap.size (some ⟨go, 0, none⟩) L bs) := (HB3.out.next hb4).next hb5; clear hb1 hg hb2 HW2 HG1 hg1 hb4 hr4 hb5 hw5 HB3 hgr))
  go_cut [64] from 31 to 64 (fun s64 wx => s64 = .bool false ∧ Hid (RunsAt w wx g g1 gr bs))
  case first =>
    have KD : RunsAt w w5.drew g g1 gr bs := K5.below ((Below.refl _ _).drew)
    have OD : Hid (Bytes w5.drew w5.drew.heap.size (some ⟨go, 0, none⟩) L bs) := O5.out.drawn
    have cv5 := text_ref (c := R) HR.out KD.ref
    clear K5 O5
    go_region_with (first
      | (go_at_call 10; refine (banks_any g1 (romOf bs) M HF.out _ KD.rom).mono ?_; rintro e w' ⟨rfl, rfl⟩)
      | (go_at_call 13; refine (rbanks_any _ R R M HR1.out hM2 _).mono ?_; rintro e w' ⟨rfl, rfl⟩)
      | (go_at_call 14; refine (bytes_len g1 (romOf bs) R HR.out M HF.out _ KD.rom).mono ?_; rintro e w6 ⟨gb, rfl, -, hw6, hb6⟩; have K6 : RunsAt w w6 g g1 gr bs := KD.below hb6; have cv6 := text_ref (c := R) HR.out K6.ref; have cvb := text_of (c := R) HR.out hw6; have cvo := text_any (c := cc) Try.underlying25 (OD.out.next hb6); have cvg := text_of (c := L) HN.out.symm K6.2.1; clear hw6 hb6)
      | (go_at_call 16; refine (rsum_any _ R R (romOf bs) _ _ (ref_bytes HR.out (by first | exact RunsAt.ref K8 | exact RunsAt.ref K7)) hR2 HIn.out).mono ?_; rintro e w' ⟨rfl, rfl⟩)
      | (have tok : True := tok1; go_at_call 15; refine (sum_any g1 (romOf bs) M HF.out _ K6.rom).mono ?_; rintro e w7 ⟨rfl, hr7⟩; have K7 : RunsAt w w7 g g1 gr bs := K6.sum hr7; clear hr7 tok1)
      | (go_at_call 15; refine (sum_any g1 (romOf bs) M HF.out _ K7.rom).mono ?_; rintro e w8 ⟨rfl, hr8⟩; have K8 : RunsAt w w8 g g1 gr bs := K7.sum hr8; clear hr8))
    all_goals (go_wp2_with fail; go_meet; exact ⟨by simp, K8⟩)
  case rest =>
    obtain ⟨rfl, KC⟩ := hcut
    go_wp2_with fail
    go_loopw [67] (fun i wr => ∃ k : Nat, k ≤ n2 ∧ i = .int .i64 k ∧ Hid (RunsAt w wr g g1 gr bs)) (fun i _ => n2 - (intOf i).toNat)
    case atStart => exact ⟨0, by omega, rfl, KC⟩
    case round =>
      obtain ⟨k, hk, rfl, KW⟩ := hrel
      by_cases hlt : k < n2
      · obtain ⟨gp, o, rfl, hgp, hc⟩ := (HP.out.under KW.out.2.2.2.1) (by omega)
        obtain ⟨cx, cy⟩ := hc k hlt
        obtain ⟨X, hX⟩ : ∃ X, X = (ps k).1 := ⟨_, rfl⟩
        obtain ⟨Y, hY⟩ : ∃ Y, Y = (ps k).2 := ⟨_, rfl⟩
        rw [← hX] at cx
        rw [← hY] at cy
        clear hc hX hY
        have KA : RunsAt w (wr.alloc (.cells #[.int .i64 X, .int .i64 Y] 39)) g g1 gr bs := KW.out.below ((Below.refl _ _).alloc (Nat.le_refl _) _)
        have RD := RomAt.drawnN KA.rom
        have GD := fun n => Lib.hid (Whole.drawnN KA.ref n)
        have KH := Lib.hid KA
        clear KA
        obtain ⟨v, hv⟩ : ∃ v, v = (romOf bs).getD (X % M * 16384 + Y % 16384).toNat 0 := ⟨_, rfl⟩
        have HV := Lib.hid hv.symm
        clear hv
        go_wp2_with fail
        go_quiet ((first | (go_at_call 9; exact Calls.quiet_of_same (at_same g1 _ M HF.out _ (RD _).out X Y v HV.out)) | (go_at_call 17; exact Calls.quiet_of_same (rat_any gr R _ M HF.out _ (GD _).out R HR.out X Y v HV.out))))
        go_wp2_with fail
        go_roundw
        case rel => exact ⟨k + 1, by omega, by go_num, KH.out.below ⟨rfl, rfl, rfl, Nat.le_refl _, fun _ _ => rfl⟩⟩
        case measure => simp [intOf]; omega
      · go_wp2_with fail
        go_ret
        exact ⟨rfl, KW.out.2.2.2.1⟩

end Go.Proofs.Ytdgejcbnjelgkaa
