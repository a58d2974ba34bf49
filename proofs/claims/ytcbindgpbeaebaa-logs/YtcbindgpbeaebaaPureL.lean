import Derived.Test.YtcbindgpbeaebaaPureI
namespace Go.Proofs.Ytcbindgpbeaebaa

/-! What a disk does does not hang on its slice's capacity. -/
theorem Dk.changes_wc (d : Dk) (c : Nat) : ({ d with cap := c } : Dk).changes = (d.changes.1, { d.changes.2 with cap := c }) := by
  unfold Dk.changes
  simp only
  split
  · rfl
  · split <;> rfl
theorem Dk.write_wc (d : Dk) (c a : Nat) (s : ByteArray) : ({ d with cap := c } : Dk).write a s = ((d.write a s).1, { (d.write a s).2 with cap := c }) := by
  unfold Dk.write
  rw [Dk.changes_wc]
  simp only
  split <;> rfl
theorem Dk.flush_wc (d : Dk) (c : Nat) : ({ d with cap := c } : Dk).flush = (d.flush.1, { d.flush.2 with cap := c }) := by
  unfold Dk.flush
  rw [Dk.changes_wc]
  simp only
  split <;> rfl
theorem Dk.writes_wc : ∀ (T : List (Nat × ByteArray)) (d : Dk) (c : Nat), ({ d with cap := c } : Dk).writes T = ((d.writes T).1, { (d.writes T).2 with cap := c })
  | [], _, _ => rfl
  | x :: r, d, c => by
    simp only [Dk.writes, Dk.write_wc]
    split
    · exact Dk.writes_wc r _ c
    · rfl
theorem Dk.setRec_wc (d : Dk) (c : Nat) (ps : List (Nat × ByteArray)) : ({ d with cap := c } : Dk).setRec ps = ((d.setRec ps).1, { (d.setRec ps).2 with cap := c }) := by
  unfold Dk.setRec
  rw [Dk.write_wc]
  simp only
  split
  · exact Dk.flush_wc _ c
  · rfl
theorem Dk.through_wc (d : Dk) (c : Nat) (T ps : List (Nat × ByteArray)) : ({ d with cap := c } : Dk).through T ps = ((d.through T ps).1, { (d.through T ps).2 with cap := c }) := by
  unfold Dk.through
  rw [Dk.writes_wc]
  simp only [Dk.flush_wc]
  split
  · split
    · exact Dk.setRec_wc _ c ps
    · rfl
  · rfl
theorem inRoom_cap (d : Dk) (c : Nat) : ∀ (ps : List (Nat × ByteArray)) (i : Nat), inRoom { d with cap := c } i ps = inRoom d i ps
  | [], _ => rfl
  | p :: r, i => by
    rw [inRoom, inRoom, inRoom_cap d c r (i + 1)]
    rfl
theorem Dk.redo_wc (d : Dk) (c : Nat) (ps : List (Nat × ByteArray)) : ({ d with cap := c } : Dk).redo ps = ((d.redo ps).1, { (d.redo ps).2 with cap := c }) := by
  unfold Dk.redo
  rw [Dk.flush_wc]
  simp only [inRoom_cap, Dk.through_wc]
  split
  · split
    · rfl
    · split <;> rfl
  · rfl
theorem Dk.Ok.cap {d : Dk} (h : d.Ok) (c : Nat) : ({ d with cap := c } : Dk).Ok := ⟨h.w0, h.w1, h.l0, h.l1, h.f0, h.f1, h.n, h.lt⟩

/-- A disk that is dead does nothing. -/
theorem commit_dead {d : Dk} {ps : List (Nat × ByteArray)} (h : (commitL d ps false).1 = 0) (hp : 0 < ps.length) : d.life ≠ 0 := fun e => by
  have hp' : ps.length ≠ 0 := by omega
  have h1 : (d.through (room 0 ps) ps).1 = false := by
    cases ps with
    | nil => simp at hp
    | cons p r =>
      have : d.changes.1 = false := by simp [Dk.changes, e]
      have hw : (d.writes (room 0 (p :: r))).1 = false := by simp [room, Dk.writes, Dk.write, this]
      simp [Dk.through, hw]
  simp [commitL, hp', h1] at h
/-- A Commit that failed has counted it. -/
theorem commit_fe (d : Dk) (ps : List (Nat × ByteArray)) (ok : d.Ok) (hf : d.failed + 1 ≤ 9223372036854775806) (hl : d.late = []) (hN : 90 < d.safe.length) (hp0 : 0 < ps.length) (hp : ps.length ≤ 80) (hb4 : ∀ p ∈ ps, 90 + p.1 < d.safe.length) (h9 : (commitL d ps false).1 = 9) : d.failed < (commitL d ps false).2.1.failed := by
  have hp0' : ps.length ≠ 0 := by omega
  have hrm : ∀ x ∈ room 0 ps, x.1 < d.safe.length := fun x hx => by have := room_mem ps 0 x hx; omega
  rcases Dk.through_cases d (room 0 ps) ps ok (by omega) hl (by omega) hrm with ⟨h1, h2, h3, j, h4⟩ | ⟨h1, h2, h3, h4⟩ | ⟨h1, h2, h2f, h3, h4⟩
  · have e : commitL d ps false = (9, (d.through (room 0 ps) ps).2, true) := by simp [commitL, h1, hp0']
    rw [e]; have := h2.fe; simp only; omega
  · have e : commitL d ps false = (9, (d.through (room 0 ps) ps).2, true) := by simp [commitL, h1, hp0']
    rw [e]; have := h2.fe; simp only; omega
  · have hlen1 := h2.len
    have hhm : ∀ x ∈ home ps, x.1 < (d.through (room 0 ps) ps).2.safe.length := fun x hx => by
      obtain ⟨p, hp, rfl⟩ := home_mem hx
      rw [hlen1]; exact hb4 p hp
    rcases Dk.through_cases (d.through (room 0 ps) ps).2 (home ps) [] h2.ok (by omega) h4 (by omega) hhm with ⟨g1, g2, g3, j, g4⟩ | ⟨g1, g2, g3, g4⟩ | ⟨g1, g2, g2f, g3, g4⟩
    · have e : commitL d ps false = (9, ((d.through (room 0 ps) ps).2.through (home ps) []).2, true) := by simp [commitL, h1, g1, hp0']
      rw [e]; have := g2.fe; simp only; omega
    · have e : commitL d ps false = (9, ((d.through (room 0 ps) ps).2.through (home ps) []).2, true) := by simp [commitL, h1, g1, hp0']
      rw [e]; have := g2.fe; simp only; omega
    · have e : commitL d ps false = (0, ((d.through (room 0 ps) ps).2.through (home ps) []).2, false) := by simp [commitL, h1, g1, hp0']
      rw [e] at h9
      cases h9
end Go.Proofs.Ytcbindgpbeaebaa
