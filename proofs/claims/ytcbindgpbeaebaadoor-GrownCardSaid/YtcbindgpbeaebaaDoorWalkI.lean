import Derived.Test.YtcbindgpbeaebaaDoorWalkH
namespace Go.Proofs.YtcbindgpbeaebaaDoor
open Go.RowKit Go.Deep
attribute [local go_sem ↓] Go.wp_at_zero Go.wp_at_succ


theorem Dk.changes_ok {d : Dk} (h : d.changes.1 = true) (ok : d.Ok) : d.changes.2.Ok ∧ d.changes.2.failed = d.failed := by
  obtain ⟨w0, w1, l0, l1, f0, f1, n, lt⟩ := ok
  unfold Dk.changes at h ⊢
  by_cases hl : d.life = 0
  · simp [hl] at h
  · by_cases hw : d.wait = 0
    · simp [hl, hw] at h
    · simp only [if_neg hl, if_neg hw]
      exact ⟨⟨by simp only; split <;> omega, by simp only; split <;> omega, by simp only; split <;> omega, by simp only; split <;> omega, f0, f1, n, lt⟩, trivial⟩
theorem Dk.write_ok {d : Dk} {a : Nat} {s : ByteArray} (h : (d.write a s).1 = true) (ok : d.Ok) (ha : a < d.safe.length) : (d.write a s).2.Ok ∧ (d.write a s).2.safe = d.safe ∧ (d.write a s).2.late = d.late ++ [(a, pad s)] := by
  have hc : d.changes.1 = true := by
    cases hc : d.changes.1
    · simp [Dk.write, hc] at h
    · rfl
  obtain ⟨⟨w0, w1, l0, l1, f0, f1, n, lt⟩, _⟩ := Dk.changes_ok hc ok
  simp only [Dk.write, hc, if_true]
  refine ⟨⟨w0, w1, l0, l1, f0, f1, n, ?_⟩, d.changes_safe, trivial⟩
  intro p hp
  simp only at hp ⊢
  rw [d.changes_safe]
  rcases List.mem_append.1 hp with hp | hp
  · exact ok.lt p hp
  · simp at hp; subst hp; exact ha
theorem Dk.flush_ok {d : Dk} (h : d.flush.1 = true) (ok : d.Ok) : d.flush.2.Ok ∧ d.flush.2.safe = lay d.safe d.late ∧ d.flush.2.late = [] := by
  have hc : d.changes.1 = true := by
    cases hc : d.changes.1
    · simp [Dk.flush, hc] at h
    · rfl
  obtain ⟨⟨w0, w1, l0, l1, f0, f1, n, lt⟩, _⟩ := Dk.changes_ok hc ok
  simp only [Dk.flush, hc, if_true]
  refine ⟨⟨w0, w1, l0, l1, f0, f1, ?_, fun p hp => by simp at hp⟩, trivial, trivial⟩
  simp only
  rw [lay_len]
  exact ok.n

/-- (*Log).setRecord -/
def Dk.setRec (d : Dk) (ps : List (Nat × ByteArray)) : Bool × Dk := if (d.write 0 (recB ps)).1 then (d.write 0 (recB ps)).2.flush else (false, (d.write 0 (recB ps)).2)

theorem recB_size (ps : List (Nat × ByteArray)) (h : ps.length ≤ 80) : (recB ps).size ≤ 256 := by
  show (recOf ps.length ps).toArray.size ≤ _
  rw [List.size_toArray, recOf_len]; omega
theorem World.heap_size_drew (w : World) : w.drew.heap.size = w.heap.size := rfl
theorem Off.drew {w : World} {bd bs : Nat} {lv : Value} {k : Nat} (h : Off w bd bs lv k) : Off w.drew bd bs lv k := h
theorem Off.cell {w w' : World} {bd bs : Nat} {lv lv' : Value} {k : Nat} (h : Off w bd bs lv k) (st : DStep bd bs lv lv' w w') (i : Nat) : w'.cell? ⟨k, i, none⟩ = w.cell? ⟨k, i, none⟩ := World.cell?_of_block (h.step st).2

set_option maxRecDepth 100000 in
set_option maxHeartbeats 3200000 in
theorem setRecord_any (w : World) (bl bd bs : Nat) (lv qv : Value) (d : Dk) (ps : List (Nat × ByteArray)) (hp : w.cell? ⟨bl, 0, none⟩ = some (.pointer (some ⟨bd, 0, none⟩))) (off : Off w bd bs lv bl) (h : DAt w bd bs lv d) (hq : w.ownsRow 0 159 2 qv ps.length (flat ps))
    (ok : d.Ok) (hs : 0 < d.safe.length) (hll : d.late.length ≤ 900000) (hl : ps.length ≤ 80) (hb4 : ∀ p ∈ ps, p.1 < 4096) :
    Calls Tryd.prog 97 #[.pointer (some ⟨bl, 0, none⟩), qv] w fun e w' => ∃ lv', e = .returned (.bool (d.setRec ps).1) ∧ DAt w' bd bs lv' (d.setRec ps).2 ∧ DStep bd bs lv lv' w w' := by
  have hrs := recB_size ps hl
  cases hw : (d.write 0 (recB ps)).1 with
  | false =>
    have HR : Hid (d.setRec ps = (false, (d.write 0 (recB ps)).2)) := by show d.setRec ps = _; simp [Dk.setRec, hw]
    have HW := hide hw
    clear hw
    go_enter Tryd.func97, Tryd.ntmps97
    go_wp2_with fail
    first | go_region_with ((first
      | (go_at_call 116; refine (record_any _ _ ps ?_ hl hb4).mono ?_; (· exact hq.drew); rintro e w1 ⟨rfl, hb1⟩
         have h1 := h.drew.below hb1
         have p1 : w1.cell? ⟨bl, 0, none⟩ = some (.pointer (some ⟨bd, 0, none⟩)) := (hb1.cell (p := ⟨bl, 0, none⟩) off.1).trans hp)
      | (go_at_call 96; refine (write_any _ _ _ _ _ 0 (recB ps) h1 ok ?_ ?_ hrs ?_).mono ?_; (· omega); (· omega); (· omega); rintro e w2 ⟨lv2, rfl, h2, st2⟩; simp only [Int.toNat_zero] at h2 st2 ⊢; rw [unhide HW]))) | fail
    all_goals
      go_wp2
      go_ret
      exact ⟨lv2, by rw [unhide HR]; rfl, by rw [unhide HR]; exact h2, ((DStep.refl _ _ _ _).drew.trans (DStep.ofBelow hb1)).trans st2⟩
  | true =>
    have HR : Hid (d.setRec ps = (d.write 0 (recB ps)).2.flush) := by show d.setRec ps = _; simp [Dk.setRec, hw]
    obtain ⟨ok2, hs2, hl2⟩ := Dk.write_ok hw ok hs
    have HL := hide hl2
    have HW := hide hw
    clear hw hl2 hs2
    go_enter Tryd.func97, Tryd.ntmps97
    go_wp2_with fail
    first | go_region_with ((first
      | (go_at_call 116; refine (record_any _ _ ps ?_ hl hb4).mono ?_; (· exact hq.drew); rintro e w1 ⟨rfl, hb1⟩
         have h1 := h.drew.below hb1
         have p1 : w1.cell? ⟨bl, 0, none⟩ = some (.pointer (some ⟨bd, 0, none⟩)) := (hb1.cell (p := ⟨bl, 0, none⟩) off.1).trans hp)
      | (go_at_call 96; refine (write_any _ _ _ _ _ 0 (recB ps) h1 ok ?_ ?_ hrs ?_).mono ?_; (· omega); (· omega); (· omega); rintro e w2 ⟨lv2, rfl, h2, st2⟩; simp only [Int.toNat_zero] at h2 st2 ⊢; rw [unhide HW]
         have st12 := ((DStep.refl bd bs lv w).drew.trans (DStep.ofBelow hb1)).trans st2
         have p2 : w2.cell? ⟨bl, 0, none⟩ = some (.pointer (some ⟨bd, 0, none⟩)) := (off.cell st12 0).trans hp)
      | (go_at_call 71; refine (flush_any _ _ _ _ _ h2 ok2 ?_).mono ?_; (· rw [unhide HL]; simp; omega); rintro e w3 ⟨lv3, rfl, h3, st3⟩))) | fail
    all_goals
      go_wp2
      go_ret
      exact ⟨lv3, by rw [unhide HR]; rfl, by rw [unhide HR]; exact h3, st12.trans st3⟩
end Go.Proofs.YtcbindgpbeaebaaDoor
