import Derived.Test.YtljjgakfnajifaaGreatDoorZCpuB1
import Derived.Deep.Cut
import Derived.Deep.CutRange
namespace Go.Proofs.YtljjgakfnajifaaGreatDoor
open Go.RowKit
set_option maxRecDepth 100000 in
set_option maxHeartbeats 400000 in
theorem hop_true_12 {W0 w : World} {c b n : Nat} {s : Cs} {l : Blocks} (h : Hid (Co W0 w c b s l (n + 1))) :
    Calls Tryz.prog 211 #[.pointer (some ⟨c, 0, none⟩), .bool true, .int .i64 12] w fun e w' => e = .returned (.int .i64 12) ∧ Hid (Co W0 w' c b ((s.next.goTo (wMove (up1 s.r.pc) s.nextV))) l n) := by
  obtain ⟨hf, hg, X, hX, hO⟩ := h.out.out
  have HF := Lib.hid hf
  have HF0 := Lib.hid hf
  have HG := Lib.hid hg
  have HX := Lib.hid hX
  have HM := Lib.hid hO
  have h2 : s.nextV < 256 := hf.m _
  clear h hf hg hX hO
  go_enter Tryz.func211, Tryz.ntmps211
  go_wp2_with (first
    | ((with_reducible apply cgY HM); exact cgS) | ((with_reducible apply cpY HM); exact cpS; clear HM; intro w' HM) | ((with_reducible apply crY HM); exact crS) | ((with_reducible apply clY HM); exact clS; clear HM; intro w' HM)
    | (go_at_call 78; have hco := Lib.hid (Co.ok HM.out HG.out HX.out); (with_reducible refine (next_at hco).mono ?_); clear hco; rintro e w' ⟨rfl, hc⟩; clear HM HF HG HX; obtain ⟨X, HF, HG, HX, HM⟩ := hc.out.hid; clear hc)
    | (go_at_call 140; (with_reducible refine (move_at _ s.nextV _ HF.out.r.pc h2 (Lib.hid rfl) _).mono ?_); rintro e w' ⟨rfl, rfl⟩)
    | (go_at_call 94; have hco := Lib.hid (Co.ok HM.out HG.out HX.out); (with_reducible refine (goTo_at _ (wMove_lt _ _) hco).mono ?_); clear hco; rintro e w' ⟨rfl, hc⟩; clear HM HF HG HX; obtain ⟨X, HF, HG, HX, HM⟩ := hc.out.hid; clear hc))
  go_ret
  have hco := Co.ok HM.out HG.out HX.out
  exact ⟨rfl, Lib.hid hco⟩
set_option maxRecDepth 100000 in
set_option maxHeartbeats 400000 in
theorem hop_false_12 {W0 w : World} {c b n : Nat} {s : Cs} {l : Blocks} (h : Hid (Co W0 w c b s l (n + 1))) :
    Calls Tryz.prog 211 #[.pointer (some ⟨c, 0, none⟩), .bool false, .int .i64 12] w fun e w' => e = .returned (.int .i64 7) ∧ Hid (Co W0 w' c b (s.next) l n) := by
  obtain ⟨hf, hg, X, hX, hO⟩ := h.out.out
  have HF := Lib.hid hf
  have HF0 := Lib.hid hf
  have HG := Lib.hid hg
  have HX := Lib.hid hX
  have HM := Lib.hid hO
  have h2 : s.nextV < 256 := hf.m _
  clear h hf hg hX hO
  go_enter Tryz.func211, Tryz.ntmps211
  go_wp2_with (first
    | ((with_reducible apply cgY HM); exact cgS) | ((with_reducible apply cpY HM); exact cpS; clear HM; intro w' HM) | ((with_reducible apply crY HM); exact crS) | ((with_reducible apply clY HM); exact clS; clear HM; intro w' HM)
    | (go_at_call 78; have hco := Lib.hid (Co.ok HM.out HG.out HX.out); (with_reducible refine (next_at hco).mono ?_); clear hco; rintro e w' ⟨rfl, hc⟩; clear HM HF HG HX; obtain ⟨X, HF, HG, HX, HM⟩ := hc.out.hid; clear hc)
    | (go_at_call 140; (with_reducible refine (move_at _ s.nextV _ HF.out.r.pc h2 (Lib.hid rfl) _).mono ?_); rintro e w' ⟨rfl, rfl⟩)
    | (go_at_call 94; have hco := Lib.hid (Co.ok HM.out HG.out HX.out); (with_reducible refine (goTo_at _ (wMove_lt _ _) hco).mono ?_); clear hco; rintro e w' ⟨rfl, hc⟩; clear HM HF HG HX; obtain ⟨X, HF, HG, HX, HM⟩ := hc.out.hid; clear hc))
  go_ret
  have hco := Co.ok HM.out HG.out HX.out
  exact ⟨rfl, Lib.hid hco⟩
theorem hop_12 {W0 w : World} {c b n : Nat} {s : Cs} {l : Blocks} (met : Bool) (h : Hid (Co W0 w c b s l (n + 1))) :
    Calls Tryz.prog 211 #[.pointer (some ⟨c, 0, none⟩), .bool met, .int .i64 12] w fun e w' => e = .returned (.int .i64 ((Cs.hopC met 12 : Nat) : Int)) ∧ Hid (Co W0 w' c b (s.hop met) l n) := by
  cases met
  · exact hop_false_12 h
  · exact hop_true_12 h
set_option maxRecDepth 100000 in
set_option maxHeartbeats 400000 in
theorem hop_true_13 {W0 w : World} {c b n : Nat} {s : Cs} {l : Blocks} (h : Hid (Co W0 w c b s l (n + 1))) :
    Calls Tryz.prog 211 #[.pointer (some ⟨c, 0, none⟩), .bool true, .int .i64 13] w fun e w' => e = .returned (.int .i64 13) ∧ Hid (Co W0 w' c b ((s.next.goTo (wMove (up1 s.r.pc) s.nextV))) l n) := by
  obtain ⟨hf, hg, X, hX, hO⟩ := h.out.out
  have HF := Lib.hid hf
  have HF0 := Lib.hid hf
  have HG := Lib.hid hg
  have HX := Lib.hid hX
  have HM := Lib.hid hO
  have h2 : s.nextV < 256 := hf.m _
  clear h hf hg hX hO
  go_enter Tryz.func211, Tryz.ntmps211
  go_wp2_with (first
    | ((with_reducible apply cgY HM); exact cgS) | ((with_reducible apply cpY HM); exact cpS; clear HM; intro w' HM) | ((with_reducible apply crY HM); exact crS) | ((with_reducible apply clY HM); exact clS; clear HM; intro w' HM)
    | (go_at_call 78; have hco := Lib.hid (Co.ok HM.out HG.out HX.out); (with_reducible refine (next_at hco).mono ?_); clear hco; rintro e w' ⟨rfl, hc⟩; clear HM HF HG HX; obtain ⟨X, HF, HG, HX, HM⟩ := hc.out.hid; clear hc)
    | (go_at_call 140; (with_reducible refine (move_at _ s.nextV _ HF.out.r.pc h2 (Lib.hid rfl) _).mono ?_); rintro e w' ⟨rfl, rfl⟩)
    | (go_at_call 94; have hco := Lib.hid (Co.ok HM.out HG.out HX.out); (with_reducible refine (goTo_at _ (wMove_lt _ _) hco).mono ?_); clear hco; rintro e w' ⟨rfl, hc⟩; clear HM HF HG HX; obtain ⟨X, HF, HG, HX, HM⟩ := hc.out.hid; clear hc))
  go_ret
  have hco := Co.ok HM.out HG.out HX.out
  exact ⟨rfl, Lib.hid hco⟩
set_option maxRecDepth 100000 in
set_option maxHeartbeats 400000 in
theorem hop_false_13 {W0 w : World} {c b n : Nat} {s : Cs} {l : Blocks} (h : Hid (Co W0 w c b s l (n + 1))) :
    Calls Tryz.prog 211 #[.pointer (some ⟨c, 0, none⟩), .bool false, .int .i64 13] w fun e w' => e = .returned (.int .i64 8) ∧ Hid (Co W0 w' c b (s.next) l n) := by
  obtain ⟨hf, hg, X, hX, hO⟩ := h.out.out
  have HF := Lib.hid hf
  have HF0 := Lib.hid hf
  have HG := Lib.hid hg
  have HX := Lib.hid hX
  have HM := Lib.hid hO
  have h2 : s.nextV < 256 := hf.m _
  clear h hf hg hX hO
  go_enter Tryz.func211, Tryz.ntmps211
  go_wp2_with (first
    | ((with_reducible apply cgY HM); exact cgS) | ((with_reducible apply cpY HM); exact cpS; clear HM; intro w' HM) | ((with_reducible apply crY HM); exact crS) | ((with_reducible apply clY HM); exact clS; clear HM; intro w' HM)
    | (go_at_call 78; have hco := Lib.hid (Co.ok HM.out HG.out HX.out); (with_reducible refine (next_at hco).mono ?_); clear hco; rintro e w' ⟨rfl, hc⟩; clear HM HF HG HX; obtain ⟨X, HF, HG, HX, HM⟩ := hc.out.hid; clear hc)
    | (go_at_call 140; (with_reducible refine (move_at _ s.nextV _ HF.out.r.pc h2 (Lib.hid rfl) _).mono ?_); rintro e w' ⟨rfl, rfl⟩)
    | (go_at_call 94; have hco := Lib.hid (Co.ok HM.out HG.out HX.out); (with_reducible refine (goTo_at _ (wMove_lt _ _) hco).mono ?_); clear hco; rintro e w' ⟨rfl, hc⟩; clear HM HF HG HX; obtain ⟨X, HF, HG, HX, HM⟩ := hc.out.hid; clear hc))
  go_ret
  have hco := Co.ok HM.out HG.out HX.out
  exact ⟨rfl, Lib.hid hco⟩
theorem hop_13 {W0 w : World} {c b n : Nat} {s : Cs} {l : Blocks} (met : Bool) (h : Hid (Co W0 w c b s l (n + 1))) :
    Calls Tryz.prog 211 #[.pointer (some ⟨c, 0, none⟩), .bool met, .int .i64 13] w fun e w' => e = .returned (.int .i64 ((Cs.hopC met 13 : Nat) : Int)) ∧ Hid (Co W0 w' c b (s.hop met) l n) := by
  cases met
  · exact hop_false_13 h
  · exact hop_true_13 h
set_option maxRecDepth 100000 in
set_option maxHeartbeats 400000 in
theorem jump_true {W0 w : World} {c b n : Nat} {s : Cs} {l : Blocks} (h : Hid (Co W0 w c b s l (n + 2))) :
    Calls Tryz.prog 170 #[.pointer (some ⟨c, 0, none⟩), .bool true] w fun e w' => e = .returned (.int .i64 10) ∧ Hid (Co W0 w' c b ((s.nextNum.setWZ s.nextNumV).setPC s.nextNumV) l n) := by
  obtain ⟨hf, hg, X, hX, hO⟩ := h.out.out
  have HF := Lib.hid hf
  have HF0 := Lib.hid hf
  have HG := Lib.hid hg
  have HX := Lib.hid hX
  have HM := Lib.hid hO
  have h1 : s.nextNumV < 65536 := Cs.numV_lt hf _
  clear h hf hg hX hO
  go_enter Tryz.func170, Tryz.ntmps170
  go_wp2_with (first
    | ((with_reducible apply cgY HM); exact cgS) | ((with_reducible apply cpY HM); exact cpS; clear HM; intro w' HM) | ((with_reducible apply crY HM); exact crS) | ((with_reducible apply clY HM); exact clS; clear HM; intro w' HM)
    | (go_at_call 153; have hco := Lib.hid (Co.ok HM.out HG.out HX.out); (with_reducible refine (nextNumber_at hco).mono ?_); clear hco; rintro e w' ⟨rfl, hc⟩; clear HM HF HG HX; obtain ⟨X, HF, HG, HX, HM⟩ := hc.out.hid; clear hc)
    | (go_at_call 50; have hco := Lib.hid (Co.ok HM.out HG.out HX.out); (with_reducible refine (begin_at s.nextNumV h1 hco).mono ?_); clear hco; rintro e w' ⟨rfl, hc⟩; clear HM HF HG HX; obtain ⟨X, HF, HG, HX, HM⟩ := hc.out.hid; clear hc)
    | (go_at_call 137; have hco := Lib.hid (Co.ok HM.out HG.out HX.out); (with_reducible refine (comeBack_at hco).mono ?_); clear hco; rintro e w' ⟨rfl, hc⟩; clear HM HF HG HX; obtain ⟨X, HF, HG, HX, HM⟩ := hc.out.hid; clear hc))
  go_ret
  have hco := fun hf => Co.made HM.out HG.out HX.out hf
  exact ⟨rfl, Lib.hid ((hco (by first | with_reducible exact HF.out | (focus repeat' (first | (with_reducible first | exact HF.out | apply ftA | apply ftF | apply ftB | apply ftC | apply ftD | apply ftE | apply ftH | apply ftL | apply ftS | apply ftP | apply ftW | apply ftI | apply ftR | apply ftM | apply ftX | apply ft1 | apply ft2 | apply ftT | apply ftY | apply ftZ | apply ftr | exact up1_lt _ | exact dn1_lt _ | exact wMove_lt _ _ | exact nByte_lt _ _ _ _ _ _ _ _ | exact Nat.mod_lt _ (by decide)) | assumption | omega | exact Nat.mod_lt _ (by decide))))).less (by omega))⟩
set_option maxRecDepth 100000 in
set_option maxHeartbeats 400000 in
theorem jump_false {W0 w : World} {c b n : Nat} {s : Cs} {l : Blocks} (h : Hid (Co W0 w c b s l (n + 2))) :
    Calls Tryz.prog 170 #[.pointer (some ⟨c, 0, none⟩), .bool false] w fun e w' => e = .returned (.int .i64 10) ∧ Hid (Co W0 w' c b (s.nextNum.setWZ s.nextNumV) l n) := by
  obtain ⟨hf, hg, X, hX, hO⟩ := h.out.out
  have HF := Lib.hid hf
  have HF0 := Lib.hid hf
  have HG := Lib.hid hg
  have HX := Lib.hid hX
  have HM := Lib.hid hO
  have h1 : s.nextNumV < 65536 := Cs.numV_lt hf _
  clear h hf hg hX hO
  go_enter Tryz.func170, Tryz.ntmps170
  go_wp2_with (first
    | ((with_reducible apply cgY HM); exact cgS) | ((with_reducible apply cpY HM); exact cpS; clear HM; intro w' HM) | ((with_reducible apply crY HM); exact crS) | ((with_reducible apply clY HM); exact clS; clear HM; intro w' HM)
    | (go_at_call 153; have hco := Lib.hid (Co.ok HM.out HG.out HX.out); (with_reducible refine (nextNumber_at hco).mono ?_); clear hco; rintro e w' ⟨rfl, hc⟩; clear HM HF HG HX; obtain ⟨X, HF, HG, HX, HM⟩ := hc.out.hid; clear hc)
    | (go_at_call 50; have hco := Lib.hid (Co.ok HM.out HG.out HX.out); (with_reducible refine (begin_at s.nextNumV h1 hco).mono ?_); clear hco; rintro e w' ⟨rfl, hc⟩; clear HM HF HG HX; obtain ⟨X, HF, HG, HX, HM⟩ := hc.out.hid; clear hc)
    | (go_at_call 137; have hco := Lib.hid (Co.ok HM.out HG.out HX.out); (with_reducible refine (comeBack_at hco).mono ?_); clear hco; rintro e w' ⟨rfl, hc⟩; clear HM HF HG HX; obtain ⟨X, HF, HG, HX, HM⟩ := hc.out.hid; clear hc))
  go_ret
  have hco := fun hf => Co.made HM.out HG.out HX.out hf
  exact ⟨rfl, Lib.hid ((hco (by first | with_reducible exact HF.out | (focus repeat' (first | (with_reducible first | exact HF.out | apply ftA | apply ftF | apply ftB | apply ftC | apply ftD | apply ftE | apply ftH | apply ftL | apply ftS | apply ftP | apply ftW | apply ftI | apply ftR | apply ftM | apply ftX | apply ft1 | apply ft2 | apply ftT | apply ftY | apply ftZ | apply ftr | exact up1_lt _ | exact dn1_lt _ | exact wMove_lt _ _ | exact nByte_lt _ _ _ _ _ _ _ _ | exact Nat.mod_lt _ (by decide)) | assumption | omega | exact Nat.mod_lt _ (by decide))))).less (by omega))⟩
set_option maxRecDepth 100000 in
set_option maxHeartbeats 400000 in
theorem call_true {W0 w : World} {c b n : Nat} {s : Cs} {l : Blocks} (h : Hid (Co W0 w c b s l (n + 4))) :
    Calls Tryz.prog 172 #[.pointer (some ⟨c, 0, none⟩), .bool true] w fun e w' => e = .returned (.int .i64 17) ∧ Hid (Co W0 w' c b ((s.nextNum.setWZ s.nextNumV).start s.nextNumV) l n) := by
  obtain ⟨hf, hg, X, hX, hO⟩ := h.out.out
  have HF := Lib.hid hf
  have HF0 := Lib.hid hf
  have HG := Lib.hid hg
  have HX := Lib.hid hX
  have HM := Lib.hid hO
  have h1 : s.nextNumV < 65536 := Cs.numV_lt hf _
  clear h hf hg hX hO
  go_enter Tryz.func172, Tryz.ntmps172
  go_wp2_with (first
    | ((with_reducible apply cgY HM); exact cgS) | ((with_reducible apply cpY HM); exact cpS; clear HM; intro w' HM) | ((with_reducible apply crY HM); exact crS) | ((with_reducible apply clY HM); exact clS; clear HM; intro w' HM)
    | (go_at_call 153; have hco := Lib.hid (Co.ok HM.out HG.out HX.out); (with_reducible refine (nextNumber_at hco).mono ?_); clear hco; rintro e w' ⟨rfl, hc⟩; clear HM HF HG HX; obtain ⟨X, HF, HG, HX, HM⟩ := hc.out.hid; clear hc)
    | (go_at_call 50; have hco := Lib.hid (Co.ok HM.out HG.out HX.out); (with_reducible refine (begin_at s.nextNumV h1 hco).mono ?_); clear hco; rintro e w' ⟨rfl, hc⟩; clear HM HF HG HX; obtain ⟨X, HF, HG, HX, HM⟩ := hc.out.hid; clear hc)
    | (go_at_call 137; have hco := Lib.hid (Co.ok HM.out HG.out HX.out); (with_reducible refine (comeBack_at hco).mono ?_); clear hco; rintro e w' ⟨rfl, hc⟩; clear HM HF HG HX; obtain ⟨X, HF, HG, HX, HM⟩ := hc.out.hid; clear hc))
  go_ret
  have hco := fun hf => Co.made HM.out HG.out HX.out hf
  exact ⟨rfl, Lib.hid ((hco (by first | with_reducible exact HF.out | (focus repeat' (first | (with_reducible first | exact HF.out | apply ftA | apply ftF | apply ftB | apply ftC | apply ftD | apply ftE | apply ftH | apply ftL | apply ftS | apply ftP | apply ftW | apply ftI | apply ftR | apply ftM | apply ftX | apply ft1 | apply ft2 | apply ftT | apply ftY | apply ftZ | apply ftr | exact up1_lt _ | exact dn1_lt _ | exact wMove_lt _ _ | exact nByte_lt _ _ _ _ _ _ _ _ | exact Nat.mod_lt _ (by decide)) | assumption | omega | exact Nat.mod_lt _ (by decide))))).less (by omega))⟩
set_option maxRecDepth 100000 in
set_option maxHeartbeats 400000 in
theorem call_false {W0 w : World} {c b n : Nat} {s : Cs} {l : Blocks} (h : Hid (Co W0 w c b s l (n + 4))) :
    Calls Tryz.prog 172 #[.pointer (some ⟨c, 0, none⟩), .bool false] w fun e w' => e = .returned (.int .i64 10) ∧ Hid (Co W0 w' c b (s.nextNum.setWZ s.nextNumV) l n) := by
  obtain ⟨hf, hg, X, hX, hO⟩ := h.out.out
  have HF := Lib.hid hf
  have HF0 := Lib.hid hf
  have HG := Lib.hid hg
  have HX := Lib.hid hX
  have HM := Lib.hid hO
  have h1 : s.nextNumV < 65536 := Cs.numV_lt hf _
  clear h hf hg hX hO
  go_enter Tryz.func172, Tryz.ntmps172
  go_wp2_with (first
    | ((with_reducible apply cgY HM); exact cgS) | ((with_reducible apply cpY HM); exact cpS; clear HM; intro w' HM) | ((with_reducible apply crY HM); exact crS) | ((with_reducible apply clY HM); exact clS; clear HM; intro w' HM)
    | (go_at_call 153; have hco := Lib.hid (Co.ok HM.out HG.out HX.out); (with_reducible refine (nextNumber_at hco).mono ?_); clear hco; rintro e w' ⟨rfl, hc⟩; clear HM HF HG HX; obtain ⟨X, HF, HG, HX, HM⟩ := hc.out.hid; clear hc)
    | (go_at_call 50; have hco := Lib.hid (Co.ok HM.out HG.out HX.out); (with_reducible refine (begin_at s.nextNumV h1 hco).mono ?_); clear hco; rintro e w' ⟨rfl, hc⟩; clear HM HF HG HX; obtain ⟨X, HF, HG, HX, HM⟩ := hc.out.hid; clear hc)
    | (go_at_call 137; have hco := Lib.hid (Co.ok HM.out HG.out HX.out); (with_reducible refine (comeBack_at hco).mono ?_); clear hco; rintro e w' ⟨rfl, hc⟩; clear HM HF HG HX; obtain ⟨X, HF, HG, HX, HM⟩ := hc.out.hid; clear hc))
  go_ret
  have hco := fun hf => Co.made HM.out HG.out HX.out hf
  exact ⟨rfl, Lib.hid ((hco (by first | with_reducible exact HF.out | (focus repeat' (first | (with_reducible first | exact HF.out | apply ftA | apply ftF | apply ftB | apply ftC | apply ftD | apply ftE | apply ftH | apply ftL | apply ftS | apply ftP | apply ftW | apply ftI | apply ftR | apply ftM | apply ftX | apply ft1 | apply ft2 | apply ftT | apply ftY | apply ftZ | apply ftr | exact up1_lt _ | exact dn1_lt _ | exact wMove_lt _ _ | exact nByte_lt _ _ _ _ _ _ _ _ | exact Nat.mod_lt _ (by decide)) | assumption | omega | exact Nat.mod_lt _ (by decide))))).less (by omega))⟩
set_option maxRecDepth 100000 in
set_option maxHeartbeats 400000 in
theorem comeBackIf_true {W0 w : World} {c b n : Nat} {s : Cs} {l : Blocks} (h : Hid (Co W0 w c b s l (n + 2))) :
    Calls Tryz.prog 165 #[.pointer (some ⟨c, 0, none⟩), .bool true] w fun e w' => e = .returned (.int .i64 11) ∧ Hid (Co W0 w' c b (s.back) l n) := by
  obtain ⟨hf, hg, X, hX, hO⟩ := h.out.out
  have HF := Lib.hid hf
  have HF0 := Lib.hid hf
  have HG := Lib.hid hg
  have HX := Lib.hid hX
  have HM := Lib.hid hO
  have h1 : s.nextNumV < 65536 := Cs.numV_lt hf _
  clear h hf hg hX hO
  go_enter Tryz.func165, Tryz.ntmps165
  go_wp2_with (first
    | ((with_reducible apply cgY HM); exact cgS) | ((with_reducible apply cpY HM); exact cpS; clear HM; intro w' HM) | ((with_reducible apply crY HM); exact crS) | ((with_reducible apply clY HM); exact clS; clear HM; intro w' HM)
    | (go_at_call 153; have hco := Lib.hid (Co.ok HM.out HG.out HX.out); (with_reducible refine (nextNumber_at hco).mono ?_); clear hco; rintro e w' ⟨rfl, hc⟩; clear HM HF HG HX; obtain ⟨X, HF, HG, HX, HM⟩ := hc.out.hid; clear hc)
    | (go_at_call 50; have hco := Lib.hid (Co.ok HM.out HG.out HX.out); (with_reducible refine (begin_at s.nextNumV h1 hco).mono ?_); clear hco; rintro e w' ⟨rfl, hc⟩; clear HM HF HG HX; obtain ⟨X, HF, HG, HX, HM⟩ := hc.out.hid; clear hc)
    | (go_at_call 137; have hco := Lib.hid (Co.ok HM.out HG.out HX.out); (with_reducible refine (comeBack_at hco).mono ?_); clear hco; rintro e w' ⟨rfl, hc⟩; clear HM HF HG HX; obtain ⟨X, HF, HG, HX, HM⟩ := hc.out.hid; clear hc))
  go_ret
  have hco := fun hf => Co.made HM.out HG.out HX.out hf
  exact ⟨rfl, Lib.hid ((hco (by first | with_reducible exact HF.out | (focus repeat' (first | (with_reducible first | exact HF.out | apply ftA | apply ftF | apply ftB | apply ftC | apply ftD | apply ftE | apply ftH | apply ftL | apply ftS | apply ftP | apply ftW | apply ftI | apply ftR | apply ftM | apply ftX | apply ft1 | apply ft2 | apply ftT | apply ftY | apply ftZ | apply ftr | exact up1_lt _ | exact dn1_lt _ | exact wMove_lt _ _ | exact nByte_lt _ _ _ _ _ _ _ _ | exact Nat.mod_lt _ (by decide)) | assumption | omega | exact Nat.mod_lt _ (by decide))))).less (by omega))⟩
set_option maxRecDepth 100000 in
set_option maxHeartbeats 400000 in
theorem comeBackIf_false {W0 w : World} {c b n : Nat} {s : Cs} {l : Blocks} (h : Hid (Co W0 w c b s l (n + 2))) :
    Calls Tryz.prog 165 #[.pointer (some ⟨c, 0, none⟩), .bool false] w fun e w' => e = .returned (.int .i64 5) ∧ Hid (Co W0 w' c b (s) l n) := by
  obtain ⟨hf, hg, X, hX, hO⟩ := h.out.out
  have HF := Lib.hid hf
  have HF0 := Lib.hid hf
  have HG := Lib.hid hg
  have HX := Lib.hid hX
  have HM := Lib.hid hO
  have h1 : s.nextNumV < 65536 := Cs.numV_lt hf _
  clear h hf hg hX hO
  go_enter Tryz.func165, Tryz.ntmps165
  go_wp2_with (first
    | ((with_reducible apply cgY HM); exact cgS) | ((with_reducible apply cpY HM); exact cpS; clear HM; intro w' HM) | ((with_reducible apply crY HM); exact crS) | ((with_reducible apply clY HM); exact clS; clear HM; intro w' HM)
    | (go_at_call 153; have hco := Lib.hid (Co.ok HM.out HG.out HX.out); (with_reducible refine (nextNumber_at hco).mono ?_); clear hco; rintro e w' ⟨rfl, hc⟩; clear HM HF HG HX; obtain ⟨X, HF, HG, HX, HM⟩ := hc.out.hid; clear hc)
    | (go_at_call 50; have hco := Lib.hid (Co.ok HM.out HG.out HX.out); (with_reducible refine (begin_at s.nextNumV h1 hco).mono ?_); clear hco; rintro e w' ⟨rfl, hc⟩; clear HM HF HG HX; obtain ⟨X, HF, HG, HX, HM⟩ := hc.out.hid; clear hc)
    | (go_at_call 137; have hco := Lib.hid (Co.ok HM.out HG.out HX.out); (with_reducible refine (comeBack_at hco).mono ?_); clear hco; rintro e w' ⟨rfl, hc⟩; clear HM HF HG HX; obtain ⟨X, HF, HG, HX, HM⟩ := hc.out.hid; clear hc))
  go_ret
  have hco := fun hf => Co.made HM.out HG.out HX.out hf
  exact ⟨rfl, Lib.hid ((hco (by first | with_reducible exact HF.out | (focus repeat' (first | (with_reducible first | exact HF.out | apply ftA | apply ftF | apply ftB | apply ftC | apply ftD | apply ftE | apply ftH | apply ftL | apply ftS | apply ftP | apply ftW | apply ftI | apply ftR | apply ftM | apply ftX | apply ft1 | apply ft2 | apply ftT | apply ftY | apply ftZ | apply ftr | exact up1_lt _ | exact dn1_lt _ | exact wMove_lt _ _ | exact nByte_lt _ _ _ _ _ _ _ _ | exact Nat.mod_lt _ (by decide)) | assumption | omega | exact Nat.mod_lt _ (by decide))))).less (by omega))⟩
theorem jump_at {W0 w : World} {c b n : Nat} {s : Cs} {l : Blocks} (met : Bool) (h : Hid (Co W0 w c b s l (n + 2))) :
    Calls Tryz.prog 170 #[.pointer (some ⟨c, 0, none⟩), .bool met] w fun e w' => e = .returned (.int .i64 ((10 : Nat) : Int)) ∧ Hid (Co W0 w' c b (s.jumpTo met) l n) := by
  cases met
  · exact jump_false h
  · exact jump_true h
theorem call_at {W0 w : World} {c b n : Nat} {s : Cs} {l : Blocks} (met : Bool) (h : Hid (Co W0 w c b s l (n + 4))) :
    Calls Tryz.prog 172 #[.pointer (some ⟨c, 0, none⟩), .bool met] w fun e w' => e = .returned (.int .i64 ((cond met 17 10 : Nat) : Int)) ∧ Hid (Co W0 w' c b (s.callTo met) l n) := by
  cases met
  · exact call_false h
  · exact call_true h
theorem comeBackIf_at {W0 w : World} {c b n : Nat} {s : Cs} {l : Blocks} (met : Bool) (h : Hid (Co W0 w c b s l (n + 2))) :
    Calls Tryz.prog 165 #[.pointer (some ⟨c, 0, none⟩), .bool met] w fun e w' => e = .returned (.int .i64 ((cond met 11 5 : Nat) : Int)) ∧ Hid (Co W0 w' c b (s.backIf met) l n) := by
  cases met
  · exact comeBackIf_false h
  · exact comeBackIf_true h
end Go.Proofs.YtljjgakfnajifaaGreatDoor
