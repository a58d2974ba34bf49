/-
  Bases: the second form's card, out of its row 'bases_row_holds' and the given tie.
-/
import Derived.Test.YtcbindgpbeaebaaGreatDoorBasesProof
namespace Go.Proofs.YtcbindgpbeaebaaGreatDoor
open Go
set_option maxRecDepth 100000

theorem bases_holds : Rows.BasesUptoCardSaid := by
  have h6 : Claim7.isSixth { stood := { row := Rows.basesUptoRow, standIns := [], harness := Rows.basesUptoCard.stood.harness, looks := false }, kinds := [] } = false := by kernel_rfl
  refine ⟨Claim7.tied_new_at .later [.data, .pinned] true (Claim7.new_of_sixth bases_row_holds Rows.basesUptoCard.stood.harness false rfl ⟨rfl, rfl⟩ (by kernel_rfl) h6 ?_) (by kernel_rfl), (fun D hD => by cases hD), basesUpto_row_tie, (fun h => by cases h), (by kernel_rfl)⟩
  intro f fn hf hfn
  obtain rfl : f = 3 := Option.some.inj ((show Tryz.prog.funcNamed "gauze/gauzelaw.Bases" = some 3 by kernel_rfl).symm.trans hf) |>.symm
  obtain rfl : fn = Tryz.f3 := (Option.some.inj (Tryz.func3.symm.trans hfn)).symm
  exact ⟨by kernel_rfl, fun j t ht => by
    rw [Tryz.params3] at ht
    have h3 : t = 3 ∨ t = 22 := by
      rcases j with _ | _ | j
      · exact .inl (by simpa using ht.symm)
      · exact .inr (by simpa using ht.symm)
      · simp at ht
    rcases h3 with rfl | rfl
    · exact (show Tryz.prog.wantsStandIn 3 = false by kernel_rfl)
    · exact (show Tryz.prog.wantsStandIn 22 = false by kernel_rfl)⟩
#print axioms bases_holds
end Go.Proofs.YtcbindgpbeaebaaGreatDoor
