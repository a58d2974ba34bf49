import Derived.Test.YtdakckfjfcnggaaDoorPureV
namespace Go.Proofs.YtdakckfjfcnggaaDoor
open Go.RowKit Go.Deep

/-- A disk that is well, and has these nodes. -/
structure Hd (d : Dk) (M : List Pl) : Prop where
  ok : d.Ok
  n3 : 300 ≤ d.safe.length
  late : d.late = []
  well : d.Well
  fail : d.failed = 0
  clr : rd d.safe 0 = pad (recB [])
  sz : ∀ i, i < 120 → (vw d i).size = 256
  mo : MOk M
  slots : SlotsOf (vw d) M
theorem Hd.life {d : Dk} {M : List Pl} (h : Hd d M) : d.life ≠ 0 := by rw [h.well.2]; decide
theorem Hd.load {d : Dk} {M : List Pl} (h : Hd d M) : loadM (vw d) 60 = M := load_eq h.slots h.mo.ord
theorem commit_well {d : Dk} (hw : d.Well) (ps : List (Nat × ByteArray)) : (commitL d ps false).1 = 0 ∧ (commitL d ps false).2.2 = false ∧ (commitL d ps false).2.1.Well := by
  unfold commitL
  rw [if_neg (by simp)]
  split
  · exact ⟨rfl, rfl, hw⟩
  · obtain ⟨a1, a2⟩ := Dk.through_well hw (room 0 ps) ps
    obtain ⟨b1, b2⟩ := Dk.through_well a2 (home ps) []
    rw [if_pos a1, if_pos b1]
    exact ⟨rfl, rfl, b2⟩
theorem lastOf_key {ps : List (Nat × ByteArray)} {i : Nat} {s : ByteArray} (h : lastOf ps i = some s) (hz : ∀ p ∈ ps, p.2.size = 256) : s.size = 256 := by
  obtain ⟨x, hx, rfl⟩ := lastOf_mem ps i s h
  exact hz x hx
/-- A transaction that is committed on a disk that is well. -/
theorem Hd.commit {d : Dk} {M : List Pl} (h : Hd d M) {L : List Dd} {M1 : List Pl} {ps1 : List (Nat × ByteArray)} (hc : Chain M [] L M1 ps1) (h12 : L.length ≤ 12) (hok : ∀ x ∈ L, okDeed x = true) (fit : ∀ x ∈ L, Fit x) :
    (commitL d ps1 false).1 = 0 ∧ (commitL d ps1 false).2.2 = false ∧ Hd (commitL d ps1 false).2.1 M1 := by
  obtain ⟨c1, c2, c3⟩ := commit_well h.well ps1
  refine ⟨c1, c2, ?_⟩
  obtain ⟨mo1, pb⟩ := hc.ok fit h.mo (PsB.nil 0)
  have hs := hc.slots (V := vw d) hok fit h.mo (PsB.nil 0) (h.slots.congr fun i _ => rfl)
  have hn := h.n3
  by_cases h0 : ps1.length = 0
  · have e : commitL d ps1 false = (0, d, false) := by unfold commitL; rw [if_neg (by simp), if_pos h0]
    rw [e]
    have : ps1 = [] := List.length_eq_zero_iff.1 h0
    subst this
    exact ⟨h.ok, h.n3, h.late, h.well, h.fail, h.clr, h.sz, mo1, hs.congr fun i _ => rfl⟩
  · have hl := pb.len
    have hb4 : ∀ p ∈ ps1, 90 + p.1 < d.safe.length := fun p hp => by
      have := pb.lt p.1 (List.mem_map_of_mem hp)
      omega
    obtain ⟨g1, _, g3, _, _, g6⟩ := commit_crash d ps1 h.ok (by rw [h.fail]; decide) h.late (by omega) (by omega) (by omega) hb4 pb.sz h.clr
    rcases g6 with ⟨g6, _⟩ | ⟨_, _, k3, k4, k5⟩
    · rw [c1] at g6; cases g6
    · have hv : ∀ i, i < 120 → vw (commitL d ps1 false).2.1 i = ov (vw d) ps1 i := fun i hi => by
        unfold vw ov
        rw [k5.2 i (by omega)]
      refine ⟨g1, by omega, k3, c3, by rw [k4, h.fail], k5.1, fun i hi => ?_, mo1, hs.congr hv⟩
      rw [hv i hi]
      unfold ov
      cases hk : lastOf ps1 i with
      | none => exact h.sz i hi
      | some s => exact lastOf_key hk pb.sz
end Go.Proofs.YtdakckfjfcnggaaDoor
