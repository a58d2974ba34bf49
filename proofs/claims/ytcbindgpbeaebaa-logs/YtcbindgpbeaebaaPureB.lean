import Derived.Test.YtcbindgpbeaebaaWalkP
namespace Go.Proofs.Ytcbindgpbeaebaa

/-- Writes as the disk keeps them. -/
def padT (T : List (Nat × ByteArray)) : List (Nat × ByteArray) := T.map fun x => (x.1, pad x.2)

/-- A disk that may have failed once more. -/
structure Aft (d d' : Dk) : Prop where
  ok : d'.Ok
  f : d'.failed ≤ d.failed + 1
  calm : d.wait = -1 → d'.wait = -1
  len : d'.safe.length = d.safe.length
/-- .. has failed. -/
structure Fell (d d' : Dk) : Prop extends Aft d d' where
  dead : d.wait = -1 → d'.life = 0
  fe : d'.failed = d.failed + 1

theorem Dk.changes_fail {d : Dk} (h : d.changes.1 = false) (ok : d.Ok) (hf : d.failed + 1 ≤ 9223372036854775806) : Fell d d.changes.2 := by
  obtain ⟨w0, w1, l0, l1, f0, f1, n, lt⟩ := ok
  by_cases hl : d.life = 0
  · have e : d.changes = (false, { d with failed := d.failed + 1 }) := by simp [Dk.changes, hl]
    rw [e]
    exact { ok := ⟨w0, w1, l0, l1, by simp only; omega, hf, n, lt⟩, f := Int.le_refl _, calm := fun h => h, len := rfl, dead := fun _ => hl, fe := rfl }
  · by_cases hw : d.wait = 0
    · have e : d.changes = (false, { d with failed := d.failed + 1, wait := -1 }) := by simp [Dk.changes, hl, hw]
      rw [e]
      exact { ok := ⟨by simp, by simp, l0, l1, by simp only; omega, hf, n, lt⟩, f := Int.le_refl _, calm := fun _ => rfl, len := rfl, dead := fun h => by omega, fe := rfl }
    · simp [Dk.changes, hl, hw] at h
theorem Dk.changes_calm {d : Dk} (hw : d.wait = -1) : d.changes.2.wait = -1 := by
  unfold Dk.changes
  by_cases hl : d.life = 0
  · simp [hl, hw]
  · simp [hl, hw]
theorem Dk.write_calm {d : Dk} (hw : d.wait = -1) (a : Nat) (s : ByteArray) : (d.write a s).2.wait = -1 := by
  unfold Dk.write
  split
  · exact Dk.changes_calm hw
  · exact Dk.changes_calm hw
theorem Dk.flush_calm {d : Dk} (hw : d.wait = -1) : d.flush.2.wait = -1 := by
  unfold Dk.flush
  split
  · exact Dk.changes_calm hw
  · exact Dk.changes_calm hw
theorem Dk.write_f {d : Dk} {a : Nat} {s : ByteArray} (h : (d.write a s).1 = true) (ok : d.Ok) : (d.write a s).2.failed = d.failed := by
  cases hc : d.changes.1
  · simp [Dk.write, hc] at h
  · have := (Dk.changes_ok hc ok).2
    simp [Dk.write, hc, this]
theorem Dk.flush_f {d : Dk} (h : d.flush.1 = true) (ok : d.Ok) : d.flush.2.failed = d.failed := by
  cases hc : d.changes.1
  · simp [Dk.flush, hc] at h
  · have := (Dk.changes_ok hc ok).2
    simp [Dk.flush, hc, this]
theorem Dk.write_fail {d : Dk} {a : Nat} {s : ByteArray} (h : (d.write a s).1 = false) (ok : d.Ok) (hf : d.failed + 1 ≤ 9223372036854775806) : Fell d (d.write a s).2 ∧ (d.write a s).2.safe = d.safe ∧ (d.write a s).2.late = d.late := by
  cases hc : d.changes.1
  · have e : d.write a s = (false, d.changes.2) := by simp [Dk.write, hc]
    rw [e]
    exact ⟨Dk.changes_fail hc ok hf, d.changes_safe, d.changes_late⟩
  · simp [Dk.write, hc] at h
theorem Dk.flush_fail {d : Dk} (h : d.flush.1 = false) (ok : d.Ok) (hf : d.failed + 1 ≤ 9223372036854775806) : Fell d d.flush.2 ∧ d.flush.2.safe = d.safe ∧ d.flush.2.late = d.late := by
  cases hc : d.changes.1
  · have e : d.flush = (false, d.changes.2) := by simp [Dk.flush, hc]
    rw [e]
    exact ⟨Dk.changes_fail hc ok hf, d.changes_safe, d.changes_late⟩
  · simp [Dk.flush, hc] at h

/-- Writes in turn: all of them, or the first ones. -/
theorem Dk.writes_cases : ∀ (T : List (Nat × ByteArray)) (d : Dk), d.Ok → d.failed + 1 ≤ 9223372036854775806 → (∀ x ∈ T, x.1 < d.safe.length) →
    ((d.writes T).1 = true ∧ Aft d (d.writes T).2 ∧ (d.writes T).2.failed = d.failed ∧ (d.writes T).2.safe = d.safe ∧ (d.writes T).2.late = d.late ++ padT T) ∨
    ((d.writes T).1 = false ∧ Fell d (d.writes T).2 ∧ (d.writes T).2.safe = d.safe ∧ ∃ j, (d.writes T).2.late = d.late ++ (padT T).take j)
  | [], d, ok, _, _ => .inl ⟨rfl, ⟨ok, by simp [Dk.writes]; omega, fun h => h, rfl⟩, rfl, rfl, by simp [Dk.writes, padT]⟩
  | x :: r, d, ok, hf, hT => by
    cases hw : (d.write x.1 x.2).1
    · have e : d.writes (x :: r) = (false, (d.write x.1 x.2).2) := by simp [Dk.writes, hw]
      rw [e]
      obtain ⟨a, b, c⟩ := Dk.write_fail hw ok hf
      exact .inr ⟨rfl, a, b, 0, by simp [c]⟩
    · have e : d.writes (x :: r) = (d.write x.1 x.2).2.writes r := by simp [Dk.writes, hw]
      rw [e]
      obtain ⟨ok1, hs1, hl1⟩ := Dk.write_ok hw ok (hT x (by simp))
      have hf1 := Dk.write_f hw ok
      have hc1 := fun h => Dk.write_calm (d := d) h x.1 x.2
      rcases Dk.writes_cases r _ ok1 (by omega) (fun y hy => by rw [hs1]; exact hT y (by simp [hy])) with ⟨h1, h2, h3, h4, h5⟩ | ⟨h1, h2, h4, j, h5⟩
      · refine .inl ⟨h1, ⟨h2.ok, by rw [h3, hf1]; omega, fun h => h2.calm (hc1 h), by rw [h2.len, hs1]⟩, by rw [h3, hf1], by rw [h4, hs1], ?_⟩
        rw [h5, hl1]; simp [padT]
      · refine .inr ⟨h1, { ok := h2.ok, f := by have := h2.f; omega, calm := fun h => h2.calm (hc1 h), len := by rw [h2.len, hs1], dead := fun h => h2.dead (hc1 h), fe := by have := h2.fe; omega }, by rw [h4, hs1], j + 1, ?_⟩
        rw [h5, hl1]; simp [padT]

/-- What 'through' leaves. -/
theorem Dk.through_cases (d : Dk) (T ps : List (Nat × ByteArray)) (ok : d.Ok) (hf : d.failed + 1 ≤ 9223372036854775806) (hl : d.late = []) (hs : 0 < d.safe.length) (hT : ∀ x ∈ T, x.1 < d.safe.length) :
    ((d.through T ps).1 = false ∧ Fell d (d.through T ps).2 ∧ (d.through T ps).2.safe = d.safe ∧ ∃ j, (d.through T ps).2.late = (padT T).take j) ∨
    ((d.through T ps).1 = false ∧ Fell d (d.through T ps).2 ∧ (d.through T ps).2.safe = lay d.safe (padT T) ∧ ((d.through T ps).2.late = [] ∨ (d.through T ps).2.late = [(0, pad (recB ps))])) ∨
    ((d.through T ps).1 = true ∧ Aft d (d.through T ps).2 ∧ (d.through T ps).2.failed = d.failed ∧ (d.through T ps).2.safe = lay (lay d.safe (padT T)) [(0, pad (recB ps))] ∧ (d.through T ps).2.late = []) := by
  rcases Dk.writes_cases T d ok hf hT with ⟨h1, h2, h3, h4, h5⟩ | ⟨h1, h2, h4, j, h5⟩
  · rw [hl, List.nil_append] at h5
    cases hfl : (d.writes T).2.flush.1
    · have e : d.through T ps = (false, (d.writes T).2.flush.2) := by simp [Dk.through, h1, hfl]
      rw [e]
      obtain ⟨a, b, c⟩ := Dk.flush_fail hfl h2.ok (by omega)
      refine .inl ⟨rfl, { ok := a.ok, f := by have := a.f; (try simp only); omega, calm := fun h => a.calm (h2.calm h), len := by rw [a.len, h2.len], dead := fun h => a.dead (h2.calm h), fe := by have := a.fe; (try simp only); omega }, by rw [b, h4], (padT T).length, ?_⟩
      rw [c, h5, List.take_length]
    · obtain ⟨ok2, hs2, hl2⟩ := Dk.flush_ok hfl h2.ok
      have hf2 := Dk.flush_f hfl h2.ok
      have hc2 := fun h => Dk.flush_calm (h2.calm h)
      have hlen2 : (d.writes T).2.flush.2.safe.length = d.safe.length := by rw [hs2, lay_len, h4]
      rw [h4, h5] at hs2
      have e : d.through T ps = (d.writes T).2.flush.2.setRec ps := by simp [Dk.through, h1, hfl]
      rw [e]
      cases hr : ((d.writes T).2.flush.2.write 0 (recB ps)).1
      · have e2 : (d.writes T).2.flush.2.setRec ps = (false, ((d.writes T).2.flush.2.write 0 (recB ps)).2) := by simp [Dk.setRec, hr]
        rw [e2]
        obtain ⟨a, b, c⟩ := Dk.write_fail hr ok2 (by omega)
        exact .inr (.inl ⟨rfl, { ok := a.ok, f := by have := a.f; (try simp only); omega, calm := fun h => a.calm (hc2 h), len := by rw [a.len, hlen2], dead := fun h => a.dead (hc2 h), fe := by have := a.fe; (try simp only); omega }, by rw [b, hs2], .inl (by rw [c, hl2])⟩)
      · have e2 : (d.writes T).2.flush.2.setRec ps = ((d.writes T).2.flush.2.write 0 (recB ps)).2.flush := by simp [Dk.setRec, hr]
        rw [e2]
        obtain ⟨ok3, hs3, hl3⟩ := Dk.write_ok hr ok2 (by rw [hlen2]; exact hs)
        have hf3 := Dk.write_f hr ok2
        have hc3 := fun h => Dk.write_calm (hc2 h) 0 (recB ps)
        rw [hl2, List.nil_append] at hl3
        cases hfl3 : ((d.writes T).2.flush.2.write 0 (recB ps)).2.flush.1
        · obtain ⟨a, b, c⟩ := Dk.flush_fail hfl3 ok3 (by omega)
          exact .inr (.inl ⟨rfl, { ok := a.ok, f := by have := a.f; (try simp only); omega, calm := fun h => a.calm (hc3 h), len := by rw [a.len, hs3, hlen2], dead := fun h => a.dead (hc3 h), fe := by have := a.fe; (try simp only); omega }, by rw [b, hs3, hs2], .inr (by rw [c, hl3])⟩)
        · obtain ⟨ok4, hs4, hl4⟩ := Dk.flush_ok hfl3 ok3
          have hf4 := Dk.flush_f hfl3 ok3
          exact .inr (.inr ⟨rfl, ⟨ok4, by omega, fun h => Dk.flush_calm (hc3 h), by rw [hs4, lay_len, hs3, hlen2]⟩, by omega, by rw [hs4, hs3, hl3, hs2], hl4⟩)
  · rw [hl, List.nil_append] at h5
    have e : d.through T ps = (false, (d.writes T).2) := by simp [Dk.through, h1]
    rw [e]
    exact .inl ⟨rfl, h2, h4, j, h5⟩

/-- A disk that neither fails nor dies. -/
def Dk.Well (d : Dk) : Prop := d.wait = -1 ∧ d.life = -1
theorem Dk.changes_well {d : Dk} (h : d.Well) : d.changes = (true, d) := by
  obtain ⟨h1, h2⟩ := h
  cases d
  simp only at h1 h2
  subst h1 h2
  simp [Dk.changes]
theorem Dk.write_well {d : Dk} (h : d.Well) (a : Nat) (s : ByteArray) : (d.write a s).1 = true ∧ (d.write a s).2.Well := by
  simp only [Dk.write, Dk.changes_well h, if_true]
  exact ⟨trivial, h⟩
theorem Dk.flush_well {d : Dk} (h : d.Well) : d.flush.1 = true ∧ d.flush.2.Well := by
  simp only [Dk.flush, Dk.changes_well h, if_true]
  exact ⟨trivial, h⟩
theorem Dk.writes_well : ∀ (T : List (Nat × ByteArray)) (d : Dk), d.Well → (d.writes T).1 = true ∧ (d.writes T).2.Well
  | [], d, h => ⟨rfl, h⟩
  | x :: r, d, h => by
    obtain ⟨a, b⟩ := Dk.write_well h x.1 x.2
    simp only [Dk.writes, a, if_true]
    exact Dk.writes_well r _ b
theorem Dk.through_well {d : Dk} (h : d.Well) (T ps : List (Nat × ByteArray)) : (d.through T ps).1 = true ∧ (d.through T ps).2.Well := by
  obtain ⟨a, b⟩ := Dk.writes_well T d h
  obtain ⟨a1, b1⟩ := Dk.flush_well b
  obtain ⟨a2, b2⟩ := Dk.write_well b1 0 (recB ps)
  obtain ⟨a3, b3⟩ := Dk.flush_well b2
  simp only [Dk.through, a, a1, if_true, Dk.setRec, a2]
  exact ⟨a3, b3⟩
theorem Dk.flush_none {d : Dk} (h : d.Well) (hl : d.late = []) : d.flush = (true, d) := by
  simp only [Dk.flush, Dk.changes_well h, if_true]
  rw [hl]
  congr 1
  cases d
  simp only at hl
  subst hl
  rfl
end Go.Proofs.Ytcbindgpbeaebaa
