import Derived.Test.YtcbindgpbeaebaaGreatDoorBooA
import Derived.Deep.DeepCutAuto
namespace Go.Proofs.YtcbindgpbeaebaaGreatDoor
open Go.RowKit Go.Deep
attribute [local go_sem ↓] Go.wp_at_zero Go.wp_at_succ

set_option maxRecDepth 100000 in
set_option maxHeartbeats 6400000 in
theorem one_put_K (w : World) (g cap : Nat) (l : List Nd) (n : Nd) (h : NAt w (.slice (some ⟨g, 0, none⟩) l.length cap) l) (hl : l.length ≤ 1000) (ho : OrdN l) (hpz : n.path.size ≤ 4611686018427387903) (h0 : rPutErr l n ≠ 0) (hin0 : findN l n.path = none) (hp1 : ¬ ((parentB n.path).size ≠ 0 ∧ findN l (parentB n.path) = none)) (hp2 : ¬ ((parentB n.path).size ≠ 0 ∧ ∃ m, findN l (parentB n.path) = some m ∧ m.kind = 1)) :
    Calls Tryz.prog 121 #[.agg #[.slice (some ⟨g, 0, none⟩) l.length cap], ddV ⟨false, n⟩] w (OnePost w (rOne l ⟨false, n⟩)) := by
  have HIN0 := hide hin0
  have HP1 := hide hp1
  have HP2 := hide hp2
  clear hin0 hp1 hp2
  have H0 := hide h0
  clear h0
  have hm := OneM.start w (.slice (some ⟨g, 0, none⟩) l.length cap) l ⟨false, n⟩ h
  unfold ddV
  dsimp only at hm ⊢
  have hF := bfind_any _ (.slice (some ⟨g, 0, none⟩) l.length cap) l n.path hm.nat (by omega)
  have hEm := isEmpty_size (parentB n.path)
  have HF := hide hF
  have HM := hide hm
  have HNAT := hide h
  have HORD := hide ho
  have HPP := hide fun w => rParent_any w n.path (by omega)
  obtain ⟨j0, hj0, hz0, hz1, hz2⟩ := info_parts info_Node5
  clear hF hm h ho
  obtain ⟨i, hi, hic⟩ : ∃ i, findI l n.path = i ∧ ((i = -1 ∧ findN l n.path = none) ∨ ∃ (k : Nat) (m : Nd), i = (k : Int) ∧ findN l n.path = some m ∧ l[k]? = some m ∧ k < l.length) := ⟨_, rfl, findI_cases l n.path⟩
  obtain ⟨j, hj, hjc⟩ : ∃ j, findI l (parentB n.path) = j ∧ ((j = -1 ∧ findN l (parentB n.path) = none) ∨ ∃ (k : Nat) (m : Nd), j = (k : Int) ∧ findN l (parentB n.path) = some m ∧ l[k]? = some m ∧ k < l.length) := ⟨_, rfl, findI_cases l (parentB n.path)⟩
  obtain ⟨up, hup⟩ : ∃ up, up = parentB n.path := ⟨_, rfl⟩
  have hp4 : up.size ≠ 0 ∧ findN l up = none → rPutErr l n = 4 := fun h => by
    subst hup
    unfold rPutErr
    rw [if_pos h]
  have hp6 : up.size ≠ 0 → ∀ m, findN l up = some m → m.kind = 1 → rPutErr l n = 6 := fun h m hm hk => by
    subst hup
    unfold rPutErr
    rw [if_neg (by simp [hm]), if_pos ⟨h, by rw [hm]; simp [hk]⟩]
  have hpp : Par l up j → rPutErr l n = tailN (findN l n.path) n.kind l.length := fun h => by
    subst hup
    exact par_err h hj
  have HP4 := hide hp4
  have HP6 := hide hp6
  have HPE := hide hpp
  rw [← hup] at hEm hj hjc HPP
  clear hp4 hp6 hpp
  have HI := hide hi
  have HIC := hide hic
  have HJ := hide hj
  have HJC := hide hjc
  have HUP := hide hup
  clear hi hic hj hjc hup
  go_enter Tryz.func121, Tryz.ntmps121
  go_wp2_with fail
  refine (unhide HF).mono ?_
  rintro e w1 ⟨rfl, o, hw1⟩
  have hm1 := (unhide HM).below (below_new _ o)
  rw [← hw1] at hm1
  clear hw1
  rw [unhide HI]
  obtain ⟨W2, hW2⟩ : ∃ W2, W2 = w1.alloc (.cells #[.slice none 0 0] 30) := ⟨_, rfl⟩
  have hm2 := hm1.below (below_new w1 (.cells #[.slice none 0 0] 30))
  rw [← hW2] at hm2
  have bO : W2.heap[w1.heap.size]? = some (.cells #[.slice none 0 0] 30 (0, 0)) := by rw [hW2]; exact heap_alloc_new w1 _
  obtain ⟨d0, d1, d2, d3, d4, d5⟩ := six_cells hm1.b1
  obtain ⟨d0', d1', d2', d3', d4', d5'⟩ := six_cells hm2.b1
  obtain ⟨c0', z0'⟩ := one_cell hm2.b0
  rw [hW2] at d0' d1' d2' d3' d4' d5' c0'
  have hs := hm1.sz
  have HM2 := hide hm2
  have HBO := hide bO
  clear hm1 hm2 bO
  go_wp2_with fail
  rw [← hW2]
  refine ((unhide HPP) W2).mono ?_
  rintro e w2 ⟨rfl, hw2⟩
  have hw2 := hw2.symm
  subst hw2
  rw [← hW2] at d0' d1' d2' d3' d4' d5' c0'
  clear hW2
  go_wp2_with fail
  refine (bfind_any W2 (.slice (some ⟨g, 0, none⟩) l.length cap) l up (unhide HM2).nat (by omega)).mono ?_
  rintro e w3 ⟨rfl, o3, hw3⟩
  have hm3 := (unhide HM2).below (below_new _ o3)
  rw [← hw3] at hm3
  have hbo3 : w3.heap[w1.heap.size]? = some (.cells #[.slice none 0 0] 30 (0, 0)) := by rw [hw3]; exact (Below.heap_alloc _ _ _ (lt_of_heap (unhide HBO))).trans (unhide HBO)
  clear hw3
  rw [unhide HJ]
  obtain ⟨c0, z0⟩ := one_cell hm3.b0
  obtain ⟨f0, f1, f2, f3, f4, f5⟩ := six_cells hm3.b1
  obtain ⟨e0, y0⟩ := one_cell hm3.b2
  obtain ⟨q0, p0⟩ := one_cell hbo3
  have HM3 := hide hm3
  have HBO3 := hide hbo3
  clear hm3 hbo3 d0 d1 d2 d3 d4 d5 d0' d1' d2' d3' d4' d5' c0' z0'
  have at3 := fun k p hk => (unhide HM3).nat.at5 k p hk
  have AT3 := hide at3
  clear at3
  have hpar : Par l up j ∨ (up.size ≠ 0 ∧ up.toList.isEmpty = false ∧ j = -1 ∧ findN l up = none) ∨ (up.size ≠ 0 ∧ up.toList.isEmpty = false ∧ ∃ (k : Nat) (m : Nd), j = (k : Int) ∧ l[k]? = some m ∧ k < l.length ∧ findN l up = some m ∧ m.kind = 1) := by
    by_cases hne : up.size = 0
    · exact .inl (.inl (by rw [hEm]; simpa using hne))
    · have hem : up.toList.isEmpty = false := by rw [hEm]; simpa using hne
      rcases unhide HJC with ⟨hj, hjn⟩ | ⟨k, m, hj, hjn, hjk, hkl⟩
      · exact .inr (.inl ⟨hne, hem, hj, hjn⟩)
      · by_cases hk : m.kind = 1
        · exact .inr (.inr ⟨hne, hem, k, m, hj, hjk, hkl, hjn, hk⟩)
        · exact .inl (.inr ⟨hem, k, m, hj, hjk, hkl, hk⟩)
  clear hEm HJC HJ
  rcases hpar with hpar | ⟨hne, hem, hj, hjn⟩ | ⟨hne, hem, k, m, hj, hjk, hkl, hjn, hk1⟩
  case inr.inl => exact absurd ⟨by rw [← unhide HUP]; exact hne, by rw [← unhide HUP]; exact hjn⟩ (unhide HP1)
  case inr.inr => exact absurd ⟨by rw [← unhide HUP]; exact hne, m, by rw [← unhide HUP]; exact hjn, hk1⟩ (unhide HP2)
  case inl =>
    have hrp := (unhide HPE) hpar
    rcases unhide HIC with ⟨hi, hin⟩ | ⟨i', old, hi, hin, hik, hil⟩
    · subst hi
      by_cases h60 : 60 ≤ l.length
      · have HR := hide (rOne_err (c := 8) (by rw [hrp, hin, tailN_none, if_pos h60]) (by decide))
        have h60' : (60 : Int) ≤ (l.length : Int) := by omega
        have h60b : decide ((60 : Int) ≤ (l.length : Int)) = true := decide_eq_true (by omega)
        clear hrp hin
        rcases hpar with hem | ⟨hem, k, m, hj, hjk, hkl, hk1⟩
        · go_wp2_with fail
          go_quiet (fail)
          go_wp2_with fail
          have hfin := ((unhide HM3).drewN nq).fin ((unhide HM3).drewN nq).nat
          refine bodyPost_ret (v := .tuple #[.agg #[.slice (some ⟨g, 0, none⟩) l.length cap], .int .i64 8]) ?_ rfl ?_
          · simp [results, Tryz.f121, go_sem, e0]
          · exact ⟨.slice (some ⟨g, 0, none⟩) l.length cap, by rw [unhide HR], by rw [unhide HR]; exact hfin.1, hfin.2⟩
        · subst hj
          obtain ⟨x0, x1, x2, x3, x4⟩ := (unhide AT3) k m hjk
          have k0 : (0 : Int) ≤ (k : Int) := Int.natCast_nonneg _
          have k1 : (k : Int) < (l.length : Int) := by omega
          have k2 : ¬ ((k : Int) < 0) := by omega
          have k2b : decide ((k : Int) < 0) = false := decide_eq_false (by omega)
          have hkb : (m.kind == 1) = false := by simpa using hk1
          clear hjk
          go_wp2_with fail
          go_quiet (fail)
          go_wp2_with fail
          have hfin := ((unhide HM3).drewN nq).fin ((unhide HM3).drewN nq).nat
          refine bodyPost_ret (v := .tuple #[.agg #[.slice (some ⟨g, 0, none⟩) l.length cap], .int .i64 8]) ?_ rfl ?_
          · simp [results, Tryz.f121, go_sem, e0]
          · exact ⟨.slice (some ⟨g, 0, none⟩) l.length cap, by rw [unhide HR], by rw [unhide HR]; exact hfin.1, hfin.2⟩
      · exact absurd (show rPutErr l n = 0 by rw [hrp, hin, tailN_none, if_neg h60]) (unhide H0)
    · rw [unhide HIN0] at hin; cases hin
end Go.Proofs.YtcbindgpbeaebaaGreatDoor
