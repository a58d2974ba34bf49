/-
  Grown: the card, out of its row 'grown_row_holds' and the given tie.
-/
import Derived.Test.YtcbindgpbeaebaaDoorGrownProof
namespace Go.Proofs.YtcbindgpbeaebaaDoor
open Go
set_option maxRecDepth 100000

theorem grown_holds : Rows.GrownCardSaid := by
  have h6 : Claim7.isSixth { stood := { row := Rows.grownRow, standIns := [], harness := Rows.grownCard.stood.harness, looks := false }, kinds := [] } = false := by kernel_rfl
  refine ⟨Claim7.tied_new_at .later [.data, .pinned] true (Claim7.new_of_sixth grown_row_holds Rows.grownCard.stood.harness false rfl ⟨rfl, rfl⟩ (by kernel_rfl) h6 ?_) (by kernel_rfl), (fun D hD => by cases hD), grown_row_tie, (fun h => by cases h), (by kernel_rfl)⟩
  intro f fn hf hfn
  obtain rfl : f = 4 := Option.some.inj ((show Tryd.prog.funcNamed "gauze/gauzekeep.Grown" = some 4 by kernel_rfl).symm.trans hf) |>.symm
  obtain rfl : fn = Tryd.f4 := (Option.some.inj (Tryd.func4.symm.trans hfn)).symm
  exact ⟨by kernel_rfl, fun j t ht => by
    rw [Tryd.params4] at ht
    have h3 : t = 37 ∨ t = 3 := by
      rcases j with _ | _ | j
      · exact .inl (by simpa using ht.symm)
      · exact .inr (by simpa using ht.symm)
      · simp at ht
    rcases h3 with rfl | rfl
    · exact (show Tryd.prog.wantsStandIn 37 = false by kernel_rfl)
    · exact (show Tryd.prog.wantsStandIn 3 = false by kernel_rfl)⟩
#print axioms grown_holds
end Go.Proofs.YtcbindgpbeaebaaDoor
