import Derived.Test.YtcbindgpbeaebaaPureG
namespace Go.Proofs.Ytcbindgpbeaebaa

/-- Open, where nothing stands out: it leaves the disk as it was, whatever fails. -/
theorem redo_quiet (d : Dk) (S : List ByteArray) (ok : d.Ok) (hf : d.failed + 1 ≤ 9223372036854775806) (hl : d.late = []) (h : OutA S d.safe) :
    (d.flush.1 = true → Tells (d.flush.2.read 0) []) ∧ (d.redo []).2.Ok ∧ (d.redo []).2.failed ≤ d.failed + 1 ∧ (d.redo []).2.safe = d.safe ∧ (d.redo []).2.late = [] ∧
      (((d.redo []).1 = false ∧ (d.redo []).2.failed = d.failed + 1) ∨ ((d.redo []).1 = false ∧ (d.redo []).2.life = 0) ∨ ((d.redo []).1 = true ∧ (d.redo []).2.failed = d.failed ∧ (d.redo []).2.life ≠ 0)) := by
  cases hfl : d.flush.1 with
  | false =>
    have e : d.redo [] = (false, d.flush.2) := by simp [Dk.redo, hfl]
    obtain ⟨a, b, c⟩ := Dk.flush_fail hfl ok hf
    refine ⟨fun e => (by cases e), ?_⟩
    rw [e]
    exact ⟨a.ok, a.f, b, by simp only; rw [c, hl], .inl ⟨rfl, a.fe⟩⟩
  | true =>
    obtain ⟨ok1, hs1, hl1⟩ := Dk.flush_ok hfl ok
    have hf1 := Dk.flush_f hfl ok
    have hs2 : d.flush.2.safe = d.safe := by rw [hs1, hl]; rfl
    refine ⟨fun _ => ?_, ?_⟩
    · rw [read_rd hl1, hs2, h.1]
      exact tells_rec [] (by simp) (by simp)
    · by_cases hd : d.flush.2.life = 0
      · have e : d.redo [] = (false, d.flush.2) := by simp [Dk.redo, hfl, hd]
        rw [e]
        exact ⟨ok1, by simp only; omega, hs2, hl1, .inr (.inl ⟨rfl, hd⟩)⟩
      · have e : d.redo [] = (true, d.flush.2) := by simp [Dk.redo, hfl, hd]
        rw [e]
        exact ⟨ok1, by simp only; omega, hs2, hl1, .inr (.inr ⟨rfl, hf1, hd⟩)⟩

/-- What is on the disk between two steps of the law: what is sure, or one of two. -/
def Stands (S : List ByteArray) (pend : Option (List (Nat × ByteArray))) (d : Dk) : Prop := match pend with
  | none => d.late = [] ∧ OutA S d.safe
  | some ps => Pend S ps d ∧ 0 < ps.length ∧ ps.length ≤ 80 ∧ (∀ p ∈ ps, 90 + p.1 < S.length) ∧ ∀ p ∈ ps, p.2.size = 256
theorem Stands.cap {S : List ByteArray} {pend : Option (List (Nat × ByteArray))} {d : Dk} (h : Stands S pend d) (c : Nat) : Stands S pend { d with cap := c } := by
  cases pend with
  | none => exact h
  | some ps => exact ⟨fun K hK => h.1 K hK, h.2⟩
theorem Stands.life {S : List ByteArray} {pend : Option (List (Nat × ByteArray))} {d : Dk} (h : Stands S pend d) (x : Int) : Stands S pend { d with life := x } := by
  cases pend with
  | none => exact h
  | some ps => exact ⟨fun K hK => h.1 K hK, h.2⟩
theorem Stands.wait {S : List ByteArray} {pend : Option (List (Nat × ByteArray))} {d : Dk} (h : Stands S pend d) (x : Int) : Stands S pend { d with wait := x } := by
  cases pend with
  | none => exact h
  | some ps => exact ⟨fun K hK => h.1 K hK, h.2⟩
theorem Stands.crash {S : List ByteArray} {pend : Option (List (Nat × ByteArray))} {d : Dk} (h : Stands S pend d) (ks : List Int) : Stands S pend (d.crash ks) := by
  cases pend with
  | none =>
    obtain ⟨hl, ha⟩ := h
    refine ⟨rfl, ?_⟩
    have : kept d.late ks = [] := by rw [hl]; cases ks <;> rfl
    have e : (d.crash ks).safe = d.safe := by simp [Dk.crash, this, lay]
    rw [e]; exact ha
  | some ps => exact ⟨h.1.crash ks, h.2⟩

/-- What a log that is opened holds. -/
def Holds (S : List ByteArray) (pend : Option (List (Nat × ByteArray))) (d : Dk) : Prop := d.late = [] ∧ (OutA S d.safe ∨ ∃ ps, pend = some ps ∧ OutC S ps d.safe)

/-- Open, of whatever stands: it keeps that, or holds one of the two. -/
theorem open_stands (d : Dk) (S : List ByteArray) (pend : Option (List (Nat × ByteArray))) (ok : d.Ok) (hf : d.failed + 1 ≤ 9223372036854775806) (hlen : d.safe.length = S.length) (hN : 90 < S.length) (h : Stands S pend d) :
    ∃ psR, psR.length ≤ 80 ∧ (∀ p ∈ psR, 90 + p.1 < d.safe.length) ∧ (d.flush.1 = true → Tells (d.flush.2.read 0) psR) ∧ (∀ p ∈ inRoom d.flush.2 0 psR, p.2.size ≤ 256) ∧ (d.redo psR).2.Ok ∧ (d.redo psR).2.failed ≤ d.failed + 1 ∧ (d.redo psR).2.safe.length = S.length ∧ (d.redo psR).2.late.length ≤ max 80 d.late.length ∧
      (((d.redo psR).1 = false ∧ Stands S pend (d.redo psR).2 ∧ (d.failed < (d.redo psR).2.failed ∨ (d.redo psR).2.life = 0)) ∨ ((d.redo psR).1 = true ∧ Holds S pend (d.redo psR).2)) := by
  cases pend with
  | none =>
    obtain ⟨hl, ha⟩ := h
    obtain ⟨q1, q2, q3, q4, q5, q6⟩ := redo_quiet d S ok (by omega) hl ha
    refine ⟨[], by simp, by simp, q1, by simp [inRoom], q2, q3, by rw [q4, hlen], by rw [q5]; simp, ?_⟩
    have hst : Stands S none (d.redo []).2 := ⟨q5, by rw [q4]; exact ha⟩
    rcases q6 with ⟨a, b⟩ | ⟨a, b⟩ | ⟨a, _, _⟩
    · exact .inl ⟨a, hst, .inl (by omega)⟩
    · exact .inl ⟨a, hst, .inr b⟩
    · exact .inr ⟨a, q5, .inl (by rw [q4]; exact ha)⟩
  | some ps =>
    obtain ⟨hP, p0, p80, pb, pz⟩ := h
    obtain ⟨psR, r1, r2, r3, r4, r5, r6, r7, r8, r9⟩ := redo_pend d S ps ok hf hlen hN p0 p80 pb pz hP
    refine ⟨psR, r1, r2, r3, r4, r5, r6, r7, r8, ?_⟩
    rcases r9 with ⟨a, b, c⟩ | ⟨a, b, c⟩ | ⟨a, b, c⟩
    · exact .inl ⟨a, ⟨b, p0, p80, pb, pz⟩, .inl (by omega)⟩
    · exact .inl ⟨a, ⟨b, p0, p80, pb, pz⟩, .inr c⟩
    · exact .inr ⟨a, b, c.elim .inl fun h => .inr ⟨ps, rfl, h⟩⟩

/-- Behind a crash it holds the same, and Open finds it. -/
theorem holds_crash (d : Dk) (S : List ByteArray) (pend : Option (List (Nat × ByteArray))) (ok : d.Ok) (c : Nat) (h : Holds S pend d) :
    (({ d with cap := c } : Dk).crash []).Ok ∧ (({ d with cap := c } : Dk).crash []).late = [] ∧ (({ d with cap := c } : Dk).crash []).safe = d.safe ∧ ((({ d with cap := c } : Dk).crash []).redo []) = (true, ({ d with cap := c } : Dk).crash []) ∧ ((({ d with cap := c } : Dk).crash []).flush.1 = true → Tells ((({ d with cap := c } : Dk).crash []).flush.2.read 0) []) := by
  obtain ⟨hl, ho⟩ := h
  have hk : kept d.late [] = [] := by rw [hl]; rfl
  have hs : (({ d with cap := c } : Dk).crash []).safe = d.safe := by simp [Dk.crash, hk, lay]
  have hw : (({ d with cap := c } : Dk).crash []).Well := ⟨rfl, rfl⟩
  have hfl := Dk.flush_none hw rfl
  have h0 : rd d.safe 0 = pad (recB []) := by
    rcases ho with ho | ⟨ps, _, ho⟩
    · exact ho.1
    · exact ho.1
  refine ⟨⟨by simp [Dk.crash], by simp [Dk.crash], by simp [Dk.crash], by simp [Dk.crash], ok.f0, ok.f1, by rw [hs]; exact ok.n, by simp [Dk.crash]⟩, rfl, hs, ?_, fun _ => ?_⟩
  · simp only [Dk.redo, hfl, if_true]
    simp [hw.2]
  · rw [hfl]
    simp only
    rw [read_rd rfl, hs, h0]
    exact tells_rec [] (by simp) (by simp)
end Go.Proofs.Ytcbindgpbeaebaa
