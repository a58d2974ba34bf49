import Derived.Test.YtcbindgpbeaebaaGreatDoorBooA
import Derived.Deep.DeepCutAuto
namespace Go.Proofs.YtcbindgpbeaebaaGreatDoor
open Go.RowKit Go.Deep
attribute [local go_sem ↓] Go.wp_at_zero Go.wp_at_succ

/-- Behind an append to 'out.l'. -/
def CutN (w : World) (b : Nat) (n : Nd) (m : Nat) (ys : List Value) (wx : World) : Prop :=
  ∃ ao c, OneM w wx (.slice none 0 0) [] ⟨false, n⟩ ∧ wx.heap[b]? = some (.cells #[.slice ao m c] 30 (0, 0)) ∧ wx.ownsRow w.heap.size 76 5 (.slice ao m c) m ys
set_option maxRecDepth 100000 in
set_option maxHeartbeats 6400000 in
theorem one_put_nil (w : World) (n : Nd) (h : NAt w (.slice none 0 0) []) (hpz : n.path.size ≤ 4611686018427387903) :
    Calls Tryz.prog 121 #[.agg #[.slice none 0 0], ddV ⟨false, n⟩] w (OnePost w (rOne [] ⟨false, n⟩)) := by
  have hm := OneM.start w (.slice none 0 0) [] ⟨false, n⟩ h
  unfold ddV
  dsimp only at hm ⊢
  have hF := bfind_any _ (.slice none 0 0) [] n.path hm.nat (by simp)
  have hEm := isEmpty_size (parentB n.path)
  have HF := hide hF
  have HM := hide hm
  have HNAT := hide h
  have HPP := hide fun w => rParent_any w n.path (by omega)
  obtain ⟨j0, hj0, hz0, hz1, hz2⟩ := info_parts info_Node5
  clear hF hm h
  obtain ⟨up, hup⟩ : ∃ up, up = parentB n.path := ⟨_, rfl⟩
  rw [← hup] at hEm HPP
  have hfi : ∀ q, findI [] q = -1 := fun q => (findI_none (l := []) (q := q) (by simp)).1
  have HFI := hide hfi
  obtain ⟨r, hrr⟩ : ∃ r, r = rOne [] ⟨false, n⟩ := ⟨_, rfl⟩
  rw [← hrr]
  have hR : r = if up.size ≠ 0 then ([], 4) else ([n], 0) := by
    subst hup
    rw [hrr]
    by_cases h0 : (parentB n.path).size = 0
    · rw [if_neg (by simp [h0])]
      exact rOne_ok (by unfold rPutErr; simp [h0, findN])
    · rw [if_pos h0]
      exact rOne_err (by unfold rPutErr; rw [if_pos ⟨h0, by simp [findN]⟩]) (by decide)
  have HRR := hide hR
  clear hfi hR hup hrr
  go_enter Tryz.func121, Tryz.ntmps121
  go_wp2_with fail
  refine (unhide HF).mono ?_
  rintro e w1 ⟨rfl, o, hw1⟩
  have hm1 := (unhide HM).below (below_new _ o)
  rw [← hw1] at hm1
  clear hw1
  rw [(unhide HFI)]
  obtain ⟨W2, hW2⟩ : ∃ W2, W2 = w1.alloc (.cells #[.slice none 0 0] 30) := ⟨_, rfl⟩
  have hm2 := hm1.below (below_new w1 (.cells #[.slice none 0 0] 30))
  rw [← hW2] at hm2
  have bO : W2.heap[w1.heap.size]? = some (.cells #[.slice none 0 0] 30 (0, 0)) := by rw [hW2]; exact heap_alloc_new w1 _
  obtain ⟨d0, d1, d2, d3, d4, d5⟩ := six_cells hm1.b1
  obtain ⟨d0', d1', d2', d3', d4', d5'⟩ := six_cells hm2.b1
  obtain ⟨c0', z0'⟩ := one_cell hm2.b0
  rw [hW2] at d0' d1' d2' d3' d4' d5' c0'
  have hs := hm1.sz
  have HM2 := hide hm2
  have HBO := hide bO
  clear hm1 hm2 bO
  go_wp2_with fail
  rw [← hW2]
  refine ((unhide HPP) W2).mono ?_
  rintro e w2 ⟨rfl, hw2⟩
  have hw2 := hw2.symm
  subst hw2
  rw [← hW2] at d0' d1' d2' d3' d4' d5' c0'
  clear hW2
  go_wp2_with fail
  refine (bfind_any W2 (.slice none 0 0) [] up (unhide HM2).nat (by simp)).mono ?_
  rintro e w3 ⟨rfl, o3, hw3⟩
  have hm3 := (unhide HM2).below (below_new _ o3)
  rw [← hw3] at hm3
  have hbo3 : w3.heap[w1.heap.size]? = some (.cells #[.slice none 0 0] 30 (0, 0)) := by rw [hw3]; exact (Below.heap_alloc _ _ _ (lt_of_heap (unhide HBO))).trans (unhide HBO)
  clear hw3
  rw [(unhide HFI)]
  obtain ⟨c0, z0⟩ := one_cell hm3.b0
  obtain ⟨f0, f1, f2, f3, f4, f5⟩ := six_cells hm3.b1
  obtain ⟨e0, y0⟩ := one_cell hm3.b2
  obtain ⟨q0, p0⟩ := one_cell hbo3
  have HM3 := hide hm3
  have HBO3 := hide hbo3
  clear hm3 hbo3 d0 d1 d2 d3 d4 d5 d0' d1' d2' d3' d4' d5' c0' z0'
  by_cases hne : up.size = 0
  case neg =>
    have hem : up.toList.isEmpty = false := by rw [hEm]; simpa using hne
    have HR := hide ((unhide HRR).trans (if_pos hne))
    clear hEm hne HRR
    go_wp2_with fail
    have hfin := (unhide HM3).fin (unhide HM3).nat
    refine bodyPost_ret (v := .tuple #[.agg #[.slice none 0 0], .int .i64 4]) ?_ rfl ⟨.slice none 0 0, by rw [unhide HR], by rw [unhide HR]; exact hfin.1, hfin.2⟩
    simp [results, Tryz.f121, go_sem, e0]
  case pos =>
    have hem : up.toList.isEmpty = true := by rw [hEm]; simpa using hne
    have HR := hide ((unhide HRR).trans (if_neg (by simp [hne])))
    clear hEm hne HRR
    go_wp2_with fail
    go_quiet (fail)
    go_wp2_with fail
    go_loopw [13] (fun a wr => a = .int .i64 0 ∧ OneM w wr (.slice none 0 0) [] ⟨false, n⟩ ∧ wr.heap[w1.heap.size]? = some (.cells #[.slice none 0 0] 30 (0, 0))) (fun _ _ => 0)
    case atStart => exact ⟨rfl, (unhide HM3).drewN nq, unhide HBO3⟩
    case round =>
      obtain ⟨rfl, hm, hbo⟩ := hrel
      clear c0 z0 e0 y0 q0 p0 f0 f1 f2 f3 f4 f5
      obtain ⟨c0, z0⟩ := one_cell hm.b0
      obtain ⟨e0, y0⟩ := one_cell hm.b2
      obtain ⟨q0, p0⟩ := one_cell hbo
      have HM := hide hm
      have HBO := hide hbo
      have hnl : ∀ X : World, X.ownsRow w.heap.size 76 5 (.slice none 0 0) 0 [] := fun X => World.ownsRow_nil _ _ _ _
      have hsz : w.heap.size ≤ wr.heap.size := by have := hm.sz; omega
      have hs1 : w.heap.size + 3 ≤ w1.heap.size := hs
      have hm1 : (1 : Nat) ≤ maxLen := by unfold maxLen; omega
      have hm0 : (0 : Nat) ≤ maxLen := Nat.zero_le _
      have hm2 : (1 : Nat) * 56 ≤ 140737488355328 := by omega
      have hm3 : (0 : Nat) * 56 ≤ 140737488355328 := by omega
      clear hm hbo
      go_wp2_with fail
      go_cut [122] (fun _ wx => CutN w w1.heap.size n 0 [] wx)
      case first =>
        go_region_law (refine stp_append_from rfl _ _ 28 rfl w.heap.size 76 j0 zNdV 5 56 Tryz.underlying28 hj0 hz0 hz1 hz2 ?g1 ?g2 (.slice none 0 0) 0 [] ?g3 ?g4 (.slice none 0 0) 0 [] ?g5 ?g6 ?g7 ?g8 ?g9 ?g10 ?g11 ?_; (case g1 => rfl); (case g2 => decide); (case g3 => rfl); (case g4 => exact hnl _); (case g5 => rfl); (case g6 => rfl); (case g7 => exact .inl ⟨rfl, rfl⟩); (case g8 => simp); (case g9 => exact hm0); (case g10 => exact hm3); (case g11 => exact hsz); intro v2 w2 ho2 hg2 hp2; rw [Nat.zero_add, List.nil_append] at ho2; obtain ⟨ao2, cap2, hv2⟩ := ownsRow_form ho2.base0; subst hv2; have hst := (unhide HM).step (unhide HNAT) (hnl _) (unhide HBO) hs1 ((Below.refl _ wr).drew) hg2 ho2; obtain ⟨q2, p2⟩ := one_cell hst.2.2.2; have HST := hide (show CutN w w1.heap.size n 0 [] _ from ⟨ao2, cap2, hst.1, hst.2.1, hst.2.2.1⟩); clear ho2 hg2 hp2 hst)
        all_goals
          go_wp2_with fail
          go_meet
          exact unhide HST
      case rest =>
      obtain ⟨ao2, cap2, m4, o4, r4⟩ := hcut
      clear c0 z0 e0 y0 q0 p0
      obtain ⟨c0, z0⟩ := one_cell m4.b0
      obtain ⟨e0, y0⟩ := one_cell m4.b2
      obtain ⟨f0, f1, f2, f3, f4, f5⟩ := six_cells m4.b1
      obtain ⟨q0, p0⟩ := one_cell o4
      have M4 := hide m4
      have O4 := hide o4
      have R4 := hide r4
      have hsz4 : w.heap.size ≤ wc.heap.size := by have := m4.sz; omega
      clear m4 o4 r4
      go_wp2_with (at_builtin; refine wpList_append_from rfl _ _ 28 rfl w.heap.size 76 j0 zNdV 5 56 Tryz.underlying28 hj0 hz0 hz1 hz2 ?g1 ?g2 (.slice ao2 0 cap2) 0 [] ?g3 ?g4 (.slice (some ⟨wc.heap.size, 0, none⟩) 1 1) 1 (ndC n) ?g5 ?g6 ?g7 ?g8 ?g9 ?g10 ?g11 ?_; (case g1 => rfl); (case g2 => decide); (case g3 => rfl); (case g4 => exact ((unhide R4).alloc _)); (case g5 => rfl); (case g6 => rfl); (case g7 => exact .inr ⟨⟨wc.heap.size, 0, none⟩, 1, rfl, World.news_of_block (cs := (ndC n).toArray) (t := 76) (fr := (0, 0)) (heap_alloc_new wc _)⟩); (case g8 => simp [ndC, Value.oneCell']); (case g9 => exact hm1); (case g10 => exact hm2); (case g11 => simp; omega); intro v5 w5 ho5 hg5 hp5; rw [Nat.zero_add, List.nil_append] at ho5; obtain ⟨ao5, cap5, hv5⟩ := ownsRow_form ho5.base0; subst hv5; have hst := (unhide M4).step (unhide HNAT) (unhide R4) (unhide O4) hs1 (below_new wc _) hg5 ho5; obtain ⟨q2, p2⟩ := one_cell hst.2.2.2; have HST := hide hst; clear ho5 hg5 hp5 hst)
      generalize hW6 : w5.setCell ⟨w1.heap.size, 0, none⟩ (.slice ao5 1 cap5) = W6 at HST ⊢
      clear hW6
      obtain ⟨m6, o6, r6, _⟩ := unhide HST
      clear c0 z0 e0 y0 q0 p0 f0 f1 f2 f3 f4 f5 HST q2 p2
      obtain ⟨c0, z0⟩ := one_cell m6.b0
      obtain ⟨e0, y0⟩ := one_cell m6.b2
      obtain ⟨q0, p0⟩ := one_cell o6
      have M6 := hide m6
      have O6 := hide o6
      have R6 := hide r6
      have hsz6 : w.heap.size ≤ W6.heap.size := by have := m6.sz; omega
      clear m6 o6 r6
      go_wp2_with fail
      go_cut [141] (fun _ wx => CutN w w1.heap.size n 1 (ndC n) wx)
      case first =>
        go_region_law (refine stp_append_from rfl _ _ 28 rfl w.heap.size 76 j0 zNdV 5 56 Tryz.underlying28 hj0 hz0 hz1 hz2 ?g1 ?g2 (.slice ao5 1 cap5) 1 (ndC n) ?g3 ?g4 (.slice none 0 0) 0 [] ?g5 ?g6 ?g7 ?g8 ?g9 ?g10 ?g11 ?_; (case g1 => rfl); (case g2 => decide); (case g3 => rfl); (case g4 => exact (unhide R6).drew); (case g5 => rfl); (case g6 => rfl); (case g7 => exact .inl ⟨rfl, rfl⟩); (case g8 => simp); (case g9 => exact hm1); (case g10 => exact hm2); (case g11 => exact hsz6); intro v7 w7 ho7 hg7 hp7; rw [Nat.add_zero, List.append_nil] at ho7; obtain ⟨ao7, cap7, hv7⟩ := ownsRow_form ho7.base0; subst hv7; have hst := (unhide M6).step (unhide HNAT) (unhide R6) (unhide O6) hs1 ((Below.refl _ W6).drew) hg7 ho7; obtain ⟨q2, p2⟩ := one_cell hst.2.2.2; have HST := hide (show CutN w w1.heap.size n 1 (ndC n) _ from ⟨ao7, cap7, hst.1, hst.2.1, hst.2.2.1⟩); clear ho7 hg7 hp7 hst)
        all_goals
          go_wp2_with fail
          go_meet
          exact unhide HST
      case rest =>
      obtain ⟨ao7, cap7, m8, o8, r8⟩ := hcut
      clear c0 z0 e0 y0 q0 p0
      obtain ⟨e0, y0⟩ := one_cell m8.b2
      obtain ⟨q0, p0⟩ := one_cell o8
      have M8 := hide m8
      have R8 := hide r8
      clear m8 o8 r8
      have hna : NAt wc (.slice ao7 1 cap7) [n] := by
        have e : rowD [n] = ndC n := by simp [rowD]
        unfold NAt
        rw [e]
        exact (unhide R8).base0
      have hfin := (unhide M8).fin hna
      have HFIN := hide hfin
      clear hna hfin
      go_wp2_with (refine bodyPost_ret (v := .tuple #[.agg #[.slice ao7 1 cap7], .int .i64 0]) ?_ rfl ⟨.slice ao7 1 cap7, by rw [unhide HR], by rw [unhide HR]; exact (unhide HFIN).1, (unhide HFIN).2⟩; simp [results, Tryz.f121, go_sem, e0])
end Go.Proofs.YtcbindgpbeaebaaGreatDoor
