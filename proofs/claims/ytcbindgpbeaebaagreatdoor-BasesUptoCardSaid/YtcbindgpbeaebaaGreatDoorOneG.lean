import Derived.Test.YtcbindgpbeaebaaGreatDoorBooA
import Derived.Deep.DeepCutAuto
namespace Go.Proofs.YtcbindgpbeaebaaGreatDoor
open Go.RowKit Go.Deep
attribute [local go_sem ↓] Go.wp_at_zero Go.wp_at_succ

set_option maxRecDepth 100000 in
set_option maxHeartbeats 6400000 in
theorem one_put_G (w : World) (g cap : Nat) (l : List Nd) (n : Nd) (h : NAt w (.slice (some ⟨g, 0, none⟩) l.length cap) l) (hl : l.length ≤ 1000) (ho : OrdN l) (hpz : n.path.size ≤ 4611686018427387903) (h0 : rPutErr l n = 0) (hin0 : findN l n.path = none) (he0 : (parentB n.path).toList.isEmpty = false) :
    Calls Tryz.prog 121 #[.agg #[.slice (some ⟨g, 0, none⟩) l.length cap], ddV ⟨false, n⟩] w (OnePost w (rOne l ⟨false, n⟩)) := by
  have H0 := hide h0
  have HIN0 := hide hin0
  have HE0 := hide he0
  clear h0 hin0 he0
  have hm := OneM.start w (.slice (some ⟨g, 0, none⟩) l.length cap) l ⟨false, n⟩ h
  unfold ddV
  dsimp only at hm ⊢
  have hF := bfind_any _ (.slice (some ⟨g, 0, none⟩) l.length cap) l n.path hm.nat (by omega)
  have hEm := isEmpty_size (parentB n.path)
  have HF := hide hF
  have HM := hide hm
  have HNAT := hide h
  have HORD := hide ho
  have HPP := hide fun w => rParent_any w n.path (by omega)
  obtain ⟨j0, hj0, hz0, hz1, hz2⟩ := info_parts info_Node5
  clear hF hm h ho
  obtain ⟨i, hi, hic⟩ : ∃ i, findI l n.path = i ∧ ((i = -1 ∧ findN l n.path = none) ∨ ∃ (k : Nat) (m : Nd), i = (k : Int) ∧ findN l n.path = some m ∧ l[k]? = some m ∧ k < l.length) := ⟨_, rfl, findI_cases l n.path⟩
  obtain ⟨j, hj, hjc⟩ : ∃ j, findI l (parentB n.path) = j ∧ ((j = -1 ∧ findN l (parentB n.path) = none) ∨ ∃ (k : Nat) (m : Nd), j = (k : Int) ∧ findN l (parentB n.path) = some m ∧ l[k]? = some m ∧ k < l.length) := ⟨_, rfl, findI_cases l (parentB n.path)⟩
  obtain ⟨up, hup⟩ : ∃ up, up = parentB n.path := ⟨_, rfl⟩
  have hp4 : up.size ≠ 0 ∧ findN l up = none → rPutErr l n = 4 := fun h => by
    subst hup
    unfold rPutErr
    rw [if_pos h]
  have hp6 : up.size ≠ 0 → ∀ m, findN l up = some m → m.kind = 1 → rPutErr l n = 6 := fun h m hm hk => by
    subst hup
    unfold rPutErr
    rw [if_neg (by simp [hm]), if_pos ⟨h, by rw [hm]; simp [hk]⟩]
  have hpp : Par l up j → rPutErr l n = tailN (findN l n.path) n.kind l.length := fun h => by
    subst hup
    exact par_err h hj
  have HP4 := hide hp4
  have HP6 := hide hp6
  have HPE := hide hpp
  rw [← hup] at hEm hj hjc HPP
  clear hp4 hp6 hpp
  have HI := hide hi
  have HIC := hide hic
  have HJ := hide hj
  have HJC := hide hjc
  have HUP := hide hup
  clear hi hic hj hjc hup
  go_enter Tryz.func121, Tryz.ntmps121
  go_wp2_with fail
  refine (unhide HF).mono ?_
  rintro e w1 ⟨rfl, o, hw1⟩
  have hm1 := (unhide HM).below (below_new _ o)
  rw [← hw1] at hm1
  clear hw1
  rw [unhide HI]
  obtain ⟨W2, hW2⟩ : ∃ W2, W2 = w1.alloc (.cells #[.slice none 0 0] 30) := ⟨_, rfl⟩
  have hm2 := hm1.below (below_new w1 (.cells #[.slice none 0 0] 30))
  rw [← hW2] at hm2
  have bO : W2.heap[w1.heap.size]? = some (.cells #[.slice none 0 0] 30 (0, 0)) := by rw [hW2]; exact heap_alloc_new w1 _
  obtain ⟨d0, d1, d2, d3, d4, d5⟩ := six_cells hm1.b1
  obtain ⟨d0', d1', d2', d3', d4', d5'⟩ := six_cells hm2.b1
  obtain ⟨c0', z0'⟩ := one_cell hm2.b0
  rw [hW2] at d0' d1' d2' d3' d4' d5' c0'
  have hs := hm1.sz
  have HM2 := hide hm2
  have HBO := hide bO
  clear hm1 hm2 bO
  go_wp2_with fail
  rw [← hW2]
  refine ((unhide HPP) W2).mono ?_
  rintro e w2 ⟨rfl, hw2⟩
  have hw2 := hw2.symm
  subst hw2
  rw [← hW2] at d0' d1' d2' d3' d4' d5' c0'
  clear hW2
  go_wp2_with fail
  refine (bfind_any W2 (.slice (some ⟨g, 0, none⟩) l.length cap) l up (unhide HM2).nat (by omega)).mono ?_
  rintro e w3 ⟨rfl, o3, hw3⟩
  have hm3 := (unhide HM2).below (below_new _ o3)
  rw [← hw3] at hm3
  have hbo3 : w3.heap[w1.heap.size]? = some (.cells #[.slice none 0 0] 30 (0, 0)) := by rw [hw3]; exact (Below.heap_alloc _ _ _ (lt_of_heap (unhide HBO))).trans (unhide HBO)
  clear hw3
  rw [unhide HJ]
  obtain ⟨c0, z0⟩ := one_cell hm3.b0
  obtain ⟨f0, f1, f2, f3, f4, f5⟩ := six_cells hm3.b1
  obtain ⟨e0, y0⟩ := one_cell hm3.b2
  obtain ⟨q0, p0⟩ := one_cell hbo3
  have HM3 := hide hm3
  have HBO3 := hide hbo3
  clear hm3 hbo3 d0 d1 d2 d3 d4 d5 d0' d1' d2' d3' d4' d5' c0' z0'
  have at3 := fun k p hk => (unhide HM3).nat.at5 k p hk
  have AT3 := hide at3
  clear at3
  have hpar : Par l up j ∨ (up.size ≠ 0 ∧ up.toList.isEmpty = false ∧ j = -1 ∧ findN l up = none) ∨ (up.size ≠ 0 ∧ up.toList.isEmpty = false ∧ ∃ (k : Nat) (m : Nd), j = (k : Int) ∧ l[k]? = some m ∧ k < l.length ∧ findN l up = some m ∧ m.kind = 1) := by
    by_cases hne : up.size = 0
    · exact .inl (.inl (by rw [hEm]; simpa using hne))
    · have hem : up.toList.isEmpty = false := by rw [hEm]; simpa using hne
      rcases unhide HJC with ⟨hj, hjn⟩ | ⟨k, m, hj, hjn, hjk, hkl⟩
      · exact .inr (.inl ⟨hne, hem, hj, hjn⟩)
      · by_cases hk : m.kind = 1
        · exact .inr (.inr ⟨hne, hem, k, m, hj, hjk, hkl, hjn, hk⟩)
        · exact .inl (.inr ⟨hem, k, m, hj, hjk, hkl, hk⟩)
  clear hEm HJC HJ
  rcases hpar with hpar | ⟨hne, hem, hj, hjn⟩ | ⟨hne, hem, k, m, hj, hjk, hkl, hjn, hk1⟩
  case inr.inl => exact absurd ((unhide HP4) ⟨hne, hjn⟩) (by rw [unhide H0]; decide)
  case inr.inr => exact absurd ((unhide HP6) hne m hjn hk1) (by rw [unhide H0]; decide)
  case inl =>
    have hrp := (unhide HPE) hpar
    rcases unhide HIC with ⟨hi, hin⟩ | ⟨i', old, hi, hin, hik, hil⟩
    case inr => rw [unhide HIN0] at hin; cases hin
    case inl =>
      subst hi
      have h60 : ¬ 60 ≤ l.length := fun h => by rw [unhide H0, hin, tailN_none, if_pos h] at hrp; exact absurd hrp (by decide)
      have HR := hide (rOne_ok (l := l) (n := n) (by rw [hrp, hin, tailN_none, if_neg h60]))
      have h60' : ¬ ((60 : Int) ≤ (l.length : Int)) := by omega
      have h60b : decide ((60 : Int) ≤ (l.length : Int)) = false := decide_eq_false (by omega)
      have HIN := hide hin
      clear hrp hin
      rcases hpar with hem | ⟨hem, k, m, hj, hjk, hkl, hk1⟩
      case inl => exact absurd (unhide HE0) (by rw [← unhide HUP, hem]; decide)
      case inr =>
        subst hj
        obtain ⟨x0, x1, x2, x3, x4⟩ := (unhide AT3) k m hjk
        have k0 : (0 : Int) ≤ (k : Int) := Int.natCast_nonneg _
        have k1 : (k : Int) < (l.length : Int) := by omega
        have k2 : ¬ ((k : Int) < 0) := by omega
        have k2b : decide ((k : Int) < 0) = false := decide_eq_false (by omega)
        have hkb : (m.kind == 1) = false := by simpa using hk1
        clear hjk
        go_wp2_with fail
        go_quiet (fail)
        go_wp2_with fail
        go_loopw [13] (fun a wr => ∃ k : Nat, k ≤ l.length ∧ a = .int .i64 k ∧ OneM w wr (.slice (some ⟨g, 0, none⟩) l.length cap) l ⟨false, n⟩ ∧ wr.heap[w1.heap.size]? = some (.cells #[.slice none 0 0] 30 (0, 0)) ∧ ∀ j m, j < k → l[j]? = some m → cmpB m.path n.path < 0) (fun a _ => l.length - (intOf a).toNat)
        case atStart => exact ⟨0, Nat.zero_le _, rfl, (unhide HM3).drewN nq, unhide HBO3, fun j m hj _ => by omega⟩
        case round =>
          obtain ⟨k, hk, rfl, hm, hbo, hlo⟩ := hrel
          clear c0 z0 e0 y0 q0 p0 f0 f1 f2 f3 f4 f5
          obtain ⟨c0, z0⟩ := one_cell hm.b0
          obtain ⟨e0, y0⟩ := one_cell hm.b2
          obtain ⟨q0, p0⟩ := one_cell hbo
          have k0 : (0 : Int) ≤ (k : Int) := Int.natCast_nonneg _
          by_cases hgo : k < l.length ∧ ∀ p, l[k]? = some p → cmpB p.path n.path < 0
          · obtain ⟨hlt, hless⟩ := hgo
            obtain ⟨p, hp⟩ : ∃ p, l[k]? = some p := ⟨l[k], List.getElem?_eq_getElem hlt⟩
            obtain ⟨x0, x1, x2, x3, x4⟩ := hm.nat.at5 k p hp
            have k1 : (k : Int) < (l.length : Int) := by omega
            have hb : Op.bytesLess p.path.toList n.path.toList = true := by rw [less_cmpB]; simpa using hless p hp
            have HNX := hide (show ∀ j m, j < k + 1 → l[j]? = some m → cmpB m.path n.path < 0 from fun j m hj hjm => by
              by_cases e : j = k
              · subst e; exact hless m hjm
              · exact hlo j m (by omega) hjm)
            have HM := hide hm
            have HBO := hide hbo
            clear hless hlo hp hm hbo
            go_wp2_with fail
            go_roundw
            case rel => exact ⟨k + 1, by omega, by go_num, unhide HM, unhide HBO, unhide HNX⟩
            case measure => simp [intOf]; omega
          · have hat : atN l n.path = k := atN_is l n.path k hlo hk fun p hp h => hgo ⟨(List.getElem?_eq_some_iff.1 hp).1, fun q hq => by rw [hp] at hq; cases hq; exact h⟩
            have hA : k ≤ l.length := by omega
            have hins : insN l n = l.take k ++ n :: l.drop (k) := by rw [insN_at l n (unhide HORD), hat, unhide HIN, if_pos rfl, Nat.add_zero]
            have hcases : (k < l.length ∧ ∃ p, l[k]? = some p ∧ Op.bytesLess p.path.toList n.path.toList = false) ∨ ¬ k < l.length := by
              by_cases hlt : k < l.length
              · refine .inl ⟨hlt, l[k], List.getElem?_eq_getElem hlt, ?_⟩
                rw [less_cmpB, decide_eq_false_iff_not]
                exact fun h => hgo ⟨hlt, fun q hq => by rw [List.getElem?_eq_getElem hlt] at hq; cases hq; exact h⟩
              · exact .inr hlt
            have hcap := hm.nat.cap
            have hcl := fun (o j : Nat) u hu => hm.nat.cells o j u hu
            have at5 := fun k p hk => hm.nat.at5 k p hk
            have HAT5 := hide at5
            have HCL := hide hcl
            have HINS := hide hins
            have HM := hide hm
            have HBO := hide hbo
            have k3 : (k : Int) ≤ (cap : Int) := by omega
            have k4 : (k : Int) ≤ (l.length : Int) := by omega
            have k5 : ((k : Nat) : Int) ≤ (l.length : Int) := by omega
            have hb5 : (0 + k) * 56 ≤ 140737488355328 := by omega
            have hml : 0 + k ≤ maxLen := by unfold maxLen; omega
            have hrl : (rowD (l.take k)).length = k * 5 := by rw [rowD_len, List.length_take]; omega
            have hnl : ∀ X : World, X.ownsRow w.heap.size 76 5 (.slice none 0 0) 0 [] := fun X => World.ownsRow_nil _ _ _ _
            have hsz : w.heap.size ≤ wr.heap.size := by have := hm.sz; omega
            have hs1 : w.heap.size + 3 ≤ w1.heap.size := hs
            clear hgo hat hins hcl at5 hm hbo hlo
            rcases hcases with ⟨hlt, p, hp, hb⟩ | hlt
            case' inl =>
              obtain ⟨x0, x1, x2, x3, x4⟩ := (unhide HAT5) k p hp
              have k1 : (k : Int) < (l.length : Int) := by omega
              have k1b : decide ((k : Int) < (l.length : Int)) = true := decide_eq_true (by omega)
              clear hp
            case' inr =>
              have k1 : ¬ ((k : Int) < (l.length : Int)) := by omega
              have k1b : decide ((k : Int) < (l.length : Int)) = false := decide_eq_false (by omega)
            all_goals
              go_wp2_with fail
              go_cut [122] (fun _ wx => CutR w w1.heap.size g cap l n k (rowD (l.take k)) wx)
              case first =>
                go_region_law (refine stp_append_from rfl _ _ 28 rfl w.heap.size 76 j0 zNdV 5 56 Tryz.underlying28 hj0 hz0 hz1 hz2 ?g1 ?g2 (.slice none 0 0) 0 [] ?g3 ?g4 (.slice (some ⟨g, 0, none⟩) k cap) k (rowD (l.take k)) ?g5 ?g6 ?g7 ?g8 ?g9 ?g10 ?g11 ?_; (case g1 => rfl); (case g2 => decide); (case g3 => rfl); (case g4 => exact hnl _); (case g5 => rfl); (case g6 => exact hrl); (case g7 => exact .inr ⟨⟨g, 0, none⟩, cap, rfl, fun j u hu => (unhide HCL) 0 j u (by rw [rowD_take, List.getElem?_take] at hu; rw [Nat.zero_add]; split at hu; exact hu; cases hu)⟩); (case g8 => exact rowD_one _); (case g9 => exact hml); (case g10 => exact hb5); (case g11 => exact hsz); intro v2 w2 ho2 hg2 hp2; rw [Nat.zero_add, List.nil_append] at ho2; obtain ⟨ao2, cap2, hv2⟩ := ownsRow_form ho2.base0; subst hv2; have hst := (unhide HM).step (unhide HNAT) (hnl _) (unhide HBO) hs1 ((Below.refl _ wr).drew) hg2 ho2; obtain ⟨q2, p2⟩ := one_cell hst.2.2.2; have HST := hide (show CutR w w1.heap.size g cap l n k (rowD (l.take k)) _ from ⟨ao2, cap2, hst.1, hst.2.1, hst.2.2.1⟩); clear ho2 hg2 hp2 hst)
                all_goals
                  go_wp2_with fail
                  go_meet
                  exact unhide HST
              case rest =>
              obtain ⟨ao2, cap2, m4, o4, r4⟩ := hcut
              clear c0 z0 e0 y0 q0 p0
              obtain ⟨c0, z0⟩ := one_cell m4.b0
              obtain ⟨e0, y0⟩ := one_cell m4.b2
              obtain ⟨f0, f1, f2, f3, f4, f5⟩ := six_cells m4.b1
              obtain ⟨q0, p0⟩ := one_cell o4
              have M4 := hide m4
              have O4 := hide o4
              have R4 := hide r4
              have hsz4 : w.heap.size ≤ wc.heap.size := by have := m4.sz; omega
              have hb6 : (k + 1) * 56 ≤ 140737488355328 := by omega
              have hml6 : k + 1 ≤ maxLen := by unfold maxLen; omega
              clear m4 o4 r4
              go_wp2_with (at_builtin; refine wpList_append_from rfl _ _ 28 rfl w.heap.size 76 j0 zNdV 5 56 Tryz.underlying28 hj0 hz0 hz1 hz2 ?g1 ?g2 (.slice ao2 k cap2) k (rowD (l.take k)) ?g3 ?g4 (.slice (some ⟨wc.heap.size, 0, none⟩) 1 1) 1 (ndC n) ?g5 ?g6 ?g7 ?g8 ?g9 ?g10 ?g11 ?_; (case g1 => rfl); (case g2 => decide); (case g3 => rfl); (case g4 => exact ((unhide R4).alloc _)); (case g5 => rfl); (case g6 => rfl); (case g7 => exact .inr ⟨⟨wc.heap.size, 0, none⟩, 1, rfl, World.news_of_block (cs := (ndC n).toArray) (t := 76) (fr := (0, 0)) (heap_alloc_new wc _)⟩); (case g8 => simp [ndC, Value.oneCell']); (case g9 => exact hml6); (case g10 => exact hb6); (case g11 => simp; omega); intro v5 w5 ho5 hg5 hp5; obtain ⟨ao5, cap5, hv5⟩ := ownsRow_form ho5.base0; subst hv5; have hst := (unhide M4).step (unhide HNAT) (unhide R4) (unhide O4) hs1 (below_new wc _) hg5 ho5; obtain ⟨q2, p2⟩ := one_cell hst.2.2.2; have HST := hide hst; clear ho5 hg5 hp5 hst)
              generalize hW6 : w5.setCell ⟨w1.heap.size, 0, none⟩ (.slice ao5 (k + 1) cap5) = W6 at HST ⊢
              clear hW6
              obtain ⟨m6, o6, r6, _⟩ := unhide HST
              clear c0 z0 e0 y0 q0 p0 f0 f1 f2 f3 f4 f5 HST q2 p2
              obtain ⟨c0, z0⟩ := one_cell m6.b0
              obtain ⟨e0, y0⟩ := one_cell m6.b2
              obtain ⟨q0, p0⟩ := one_cell o6
              have M6 := hide m6
              have O6 := hide o6
              have R6 := hide r6
              have hcl6 := fun (o j : Nat) u hu => m6.nat.cells o j u hu
              have CL6 := hide hcl6
              have hsz6 : w.heap.size ≤ W6.heap.size := by have := m6.sz; omega
              have hb7 : (k + 1 + (l.length - k)) * 56 ≤ 140737488355328 := by omega
              have hml7 : k + 1 + (l.length - k) ≤ maxLen := by unfold maxLen; omega
              have hdl : (rowD (l.drop (k))).length = (l.length - k) * 5 := by rw [rowD_len, List.length_drop]
              have hlen : k + 1 + (l.length - k) = (insN l n).length := by
                rw [unhide HINS, List.length_append, List.length_cons, List.length_take, List.length_drop]; omega
              have hrow : rowD (l.take k) ++ ndC n ++ rowD (l.drop (k)) = rowD (insN l n) := by
                rw [unhide HINS, rowD_app, List.append_assoc]; rfl
              have HLEN := hide hlen
              have HROW := hide hrow
              clear m6 o6 r6 hcl6 hlen hrow
              go_wp2_with fail
              go_cut [141] (fun _ wx => CutR w w1.heap.size g cap l n (k + 1 + (l.length - k)) (rowD (insN l n)) wx)
              case first =>
                by_cases hcc : cap = k
                · have H00 := hide (show l.length - (k) = 0 by omega)
                  have H1 := hide (show k + 1 + (l.length - (k)) = k + 1 by omega)
                  have HE1 := hide (show rowD (l.drop (k)) = [] from List.eq_nil_of_length_eq_zero (by rw [hdl, unhide H00]))
                  have hcc' : k = cap := hcc.symm
                  subst hcc'
                  go_region_law (refine stp_append_from rfl _ _ 28 rfl w.heap.size 76 j0 zNdV 5 56 Tryz.underlying28 hj0 hz0 hz1 hz2 ?g1 ?g2 (.slice ao5 (k + 1) cap5) (k + 1) (rowD (l.take k) ++ ndC n) ?g3 ?g4 (.slice (some ⟨g, 0, none⟩) 0 0) 0 [] ?g5 ?g6 ?g7 ?g8 ?g9 ?g10 ?g11 ?_; (case g1 => rfl); (case g2 => decide); (case g3 => rfl); (case g4 => exact (unhide R6).drew); (case g5 => first | rfl | (simp [Act.eval, Act.put]; done)); (case g6 => rfl); (case g7 => exact .inr ⟨⟨g, 0, none⟩, 0, rfl, fun j u hu => by simp at hu⟩); (case g8 => simp); (case g9 => exact hml6); (case g10 => exact hb6); (case g11 => exact hsz6); intro v7 w7 ho7 hg7 hp7; rw [Nat.add_zero, List.append_nil] at ho7; obtain ⟨ao7, cap7, hv7⟩ := ownsRow_form ho7.base0; subst hv7; have hst := (unhide M6).step (unhide HNAT) (unhide R6) (unhide O6) hs1 ((Below.refl _ W6).drew) hg7 ho7; obtain ⟨q2, p2⟩ := one_cell hst.2.2.2; have HST := hide (show CutR w w1.heap.size g (k) l n (k + 1 + (l.length - (k))) (rowD (insN l n)) (w7.setCell ⟨w1.heap.size, 0, none⟩ (.slice ao7 (k + 1) cap7)) from by (rw [← unhide HROW, unhide H1, unhide HE1, List.append_nil]; exact ⟨ao7, cap7, hst.1, hst.2.1, hst.2.2.1⟩)); clear ho7 hg7 hp7 hst)
                  all_goals
                    go_wp2_with fail
                    go_meet
                    exact unhide HST
                · go_region_law (refine stp_append_from rfl _ _ 28 rfl w.heap.size 76 j0 zNdV 5 56 Tryz.underlying28 hj0 hz0 hz1 hz2 ?g1 ?g2 (.slice ao5 (k + 1) cap5) (k + 1) (rowD (l.take k) ++ ndC n) ?g3 ?g4 (.slice (some ⟨g, (k) * 5, none⟩) (l.length - k) (cap - k)) (l.length - k) (rowD (l.drop (k))) ?g5 ?g6 ?g7 ?g8 ?g9 ?g10 ?g11 ?_; (case g1 => rfl); (case g2 => decide); (case g3 => rfl); (case g4 => exact (unhide R6).drew); (case g5 => first | rfl | simp [Act.eval, Act.put]); (case g6 => exact hdl); (case g7 => exact .inr ⟨⟨g, (k) * 5, none⟩, cap - k, rfl, fun j u hu => (unhide CL6) ((k) * 5) j u (by rw [rowD_drop, List.getElem?_drop] at hu; exact hu)⟩); (case g8 => exact rowD_one _); (case g9 => exact hml7); (case g10 => exact hb7); (case g11 => exact hsz6); intro v7 w7 ho7 hg7 hp7; obtain ⟨ao7, cap7, hv7⟩ := ownsRow_form ho7.base0; subst hv7; have hst := (unhide M6).step (unhide HNAT) (unhide R6) (unhide O6) hs1 ((Below.refl _ W6).drew) hg7 ho7; obtain ⟨q2, p2⟩ := one_cell hst.2.2.2; have HST := hide (show CutR w w1.heap.size g cap l n (k + 1 + (l.length - k)) (rowD (insN l n)) _ from ⟨ao7, cap7, hst.1, hst.2.1, (unhide HROW) ▸ hst.2.2.1⟩); clear ho7 hg7 hp7 hst)
                  all_goals
                    go_wp2_with fail
                    go_meet
                    exact unhide HST
              case rest =>
              obtain ⟨ao7, cap7, m8, o8, r8⟩ := hcut
              clear c0 z0 e0 y0 q0 p0
              obtain ⟨e0, y0⟩ := one_cell m8.b2
              obtain ⟨q0, p0⟩ := one_cell o8
              have M8 := hide m8
              have R8 := hide r8
              clear m8 o8 r8
              have hna : NAt wc (.slice ao7 (k + 1 + (l.length - k)) cap7) (insN l n) := by
                have h8 := (unhide R8).base0
                unfold NAt
                rw [← unhide HLEN]
                exact h8
              have hfin := (unhide M8).fin hna
              have HFIN := hide hfin
              clear hna hfin
              go_wp2_with (refine bodyPost_ret (v := .tuple #[.agg #[.slice ao7 (k + 1 + (l.length - k)) cap7], .int .i64 0]) ?_ rfl ⟨_, by rw [unhide HR], by rw [unhide HR]; exact (unhide HFIN).1, (unhide HFIN).2⟩; simp [results, Tryz.f121, go_sem, e0])
end Go.Proofs.YtcbindgpbeaebaaGreatDoor
