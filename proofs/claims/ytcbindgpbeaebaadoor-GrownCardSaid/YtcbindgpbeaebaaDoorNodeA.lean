import Derived.Test.YtcbindgpbeaebaaDoorIterC
import Derived.Test.YtcbindgpbeaebaaDoorWalkL
namespace Go.Proofs.YtcbindgpbeaebaaDoor
open Go.RowKit Go.Deep
attribute [local go_sem ↓] Go.wp_at_zero Go.wp_at_succ

/-- May there be such a node? -/
def okNode (n : Nd) : Bool := okPath n.path && decide (0 ≤ n.mode) && decide (n.mode ≤ 511) && decide (0 ≤ n.tag) && decide (n.tag ≤ 255) &&
  (if n.kind = 1 then decide (n.data.size ≤ 400) else if n.kind = 2 then decide (n.data.size = 0) else false)

theorem isEmpty_size (s : ByteArray) : s.toList.isEmpty = decide (s.size = 0) := by
  rw [Lib.toList_data, Lib.size_eq]
  cases s.data.toList <;> simp

set_option maxRecDepth 100000 in
set_option maxHeartbeats 3200000 in
theorem isNode_any (w : World) (n : Nd) (hp : n.path.size ≤ 4611686018427387904) : Calls Tryd.prog 54 #[ndV n] w fun e w' => e = .returned (.bool (okNode n)) ∧ Below w.heap.size w w' := by
  obtain ⟨path, kind, mode, tag, data⟩ := n
  unfold ndV
  simp only at hp ⊢
  have hE := isEmpty_size data
  obtain ⟨ok, hok⟩ : ∃ ok, okPath path = ok := ⟨_, rfl⟩
  have hon : okNode ⟨path, kind, mode, tag, data⟩ = (ok && decide (0 ≤ mode) && decide (mode ≤ 511) && decide (0 ≤ tag) && decide (tag ≤ 255) && (if kind = 1 then decide (data.size ≤ 400) else if kind = 2 then decide (data.size = 0) else false)) := by simp only [okNode, hok]
  obtain ⟨r, hr⟩ : ∃ r, r = okNode ⟨path, kind, mode, tag, data⟩ := ⟨_, rfl⟩
  rw [← hr]
  rw [hon] at hr
  have HR := hide hr
  clear hr hon
  have hv := fun w => Valid_any w path hp
  rw [hok] at hv
  clear hok
  have HE := hide hE
  clear hE
  cases ok
  · go_enter Tryd.func54, Tryd.ntmps54
    go_wp2_with fail
    refine (hv _).mono ?_
    rintro e w1 ⟨rfl, o, rfl⟩
    go_wp2_with fail
    all_goals
      go_ret
      refine ⟨?_, ((Below.refl _ w).alloc (Nat.le_refl _) _).alloc (by simp) _⟩
      rw [unhide HR]
      simp
  · go_enter Tryd.func54, Tryd.ntmps54
    go_wp2_with fail
    refine (hv _).mono ?_
    rintro e w1 ⟨rfl, o, rfl⟩
    go_wp2_with fail
    all_goals
      go_ret
      refine ⟨?_, ((Below.refl _ w).alloc (Nat.le_refl _) _).alloc (by simp) _⟩
      rw [unhide HR]
      have hE := unhide HE
      clear HE HR hv
      refine congrArg (fun b => Ending.returned (Value.bool b)) ?_
      try rw [hE]
      rw [Bool.eq_iff_iff]
      by_cases k1 : kind = 1
      · first | (simp [k1] <;> omega) | (exfalso; simp_all)
      · by_cases k2 : kind = 2
        · first | (simp [k2] <;> omega) | (exfalso; simp_all)
        · first | (simp [k1, k2] <;> omega) | (exfalso; simp_all)
end Go.Proofs.YtcbindgpbeaebaaDoor
