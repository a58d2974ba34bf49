import Derived.Test.YtcbindgpbeaebaaGreatDoorWalkM
namespace Go.Proofs.YtcbindgpbeaebaaGreatDoor

/-- Writes as the disk keeps them. -/
def padT (T : List (Nat × ByteArray)) : List (Nat × ByteArray) := T.map fun x => (x.1, pad x.2)

/-- A disk that may have failed once more. -/
structure Aft (d d' : Dk) : Prop where
  ok : d'.Ok
  f : d'.failed ≤ d.failed + 1
  calm : d.wait = -1 → d'.wait = -1
  len : d'.safe.length = d.safe.length
/-- .. has failed. -/
structure Fell (d d' : Dk) : Prop extends Aft d d' where
  dead : d.wait = -1 → d'.life = 0
  fe : d'.failed = d.failed + 1

theorem Dk.changes_fail {d : Dk} (h : d.changes.1 = false) (ok : d.Ok) (hf : d.failed + 1 ≤ 9223372036854775806) : Fell d d.changes.2 := by
  obtain ⟨w0, w1, l0, l1, f0, f1, n, lt⟩ := ok
  by_cases hl : d.life = 0
  · have e : d.changes = (false, { d with failed := d.failed + 1 }) := by simp [Dk.changes, hl]
    rw [e]
    exact { ok := ⟨w0, w1, l0, l1, by simp only; omega, hf, n, lt⟩, f := Int.le_refl _, calm := fun h => h, len := rfl, dead := fun _ => hl, fe := rfl }
  · by_cases hw : d.wait = 0
    · have e : d.changes = (false, { d with failed := d.failed + 1, wait := -1 }) := by simp [Dk.changes, hl, hw]
      rw [e]
      exact { ok := ⟨by simp, by simp, l0, l1, by simp only; omega, hf, n, lt⟩, f := Int.le_refl _, calm := fun _ => rfl, len := rfl, dead := fun h => by omega, fe := rfl }
    · simp [Dk.changes, hl, hw] at h
theorem Dk.changes_calm {d : Dk} (hw : d.wait = -1) : d.changes.2.wait = -1 := by
  unfold Dk.changes
  by_cases hl : d.life = 0
  · simp [hl, hw]
  · simp [hl, hw]
theorem Dk.write_calm {d : Dk} (hw : d.wait = -1) (a : Nat) (s : ByteArray) : (d.write a s).2.wait = -1 := by
  unfold Dk.write
  split
  · exact Dk.changes_calm hw
  · exact Dk.changes_calm hw
theorem Dk.flush_calm {d : Dk} (hw : d.wait = -1) : d.flush.2.wait = -1 := by
  unfold Dk.flush
  split
  · exact Dk.changes_calm hw
  · exact Dk.changes_calm hw
theorem Dk.write_f {d : Dk} {a : Nat} {s : ByteArray} (h : (d.write a s).1 = true) (ok : d.Ok) : (d.write a s).2.failed = d.failed := by
  cases hc : d.changes.1
  · simp [Dk.write, hc] at h
  · have := (Dk.changes_ok hc ok).2
    simp [Dk.write, hc, this]
theorem Dk.flush_f {d : Dk} (h : d.flush.1 = true) (ok : d.Ok) : d.flush.2.failed = d.failed := by
  cases hc : d.changes.1
  · simp [Dk.flush, hc] at h
  · have := (Dk.changes_ok hc ok).2
    simp [Dk.flush, hc, this]
theorem Dk.write_fail {d : Dk} {a : Nat} {s : ByteArray} (h : (d.write a s).1 = false) (ok : d.Ok) (hf : d.failed + 1 ≤ 9223372036854775806) : Fell d (d.write a s).2 ∧ (d.write a s).2.safe = d.safe ∧ (d.write a s).2.late = d.late := by
  cases hc : d.changes.1
  · have e : d.write a s = (false, d.changes.2) := by simp [Dk.write, hc]
    rw [e]
    exact ⟨Dk.changes_fail hc ok hf, d.changes_safe, d.changes_late⟩
  · simp [Dk.write, hc] at h
theorem Dk.flush_fail {d : Dk} (h : d.flush.1 = false) (ok : d.Ok) (hf : d.failed + 1 ≤ 9223372036854775806) : Fell d d.flush.2 ∧ d.flush.2.safe = d.safe ∧ d.flush.2.late = d.late := by
  cases hc : d.changes.1
  · have e : d.flush = (false, d.changes.2) := by simp [Dk.flush, hc]
    rw [e]
    exact ⟨Dk.changes_fail hc ok hf, d.changes_safe, d.changes_late⟩
  · simp [Dk.flush, hc] at h

/-- Writes in turn: all of them, or the first ones. -/
theorem Dk.writes_cases : ∀ (T : List (Nat × ByteArray)) (d : Dk), d.Ok → d.failed + 1 ≤ 9223372036854775806 → (∀ x ∈ T, x.1 < d.safe.length) →
    ((d.writes T).1 = true ∧ Aft d (d.writes T).2 ∧ (d.writes T).2.failed = d.failed ∧ (d.writes T).2.safe = d.safe ∧ (d.writes T).2.late = d.late ++ padT T) ∨
    ((d.writes T).1 = false ∧ Fell d (d.writes T).2 ∧ (d.writes T).2.safe = d.safe ∧ ∃ j, (d.writes T).2.late = d.late ++ (padT T).take j)
  | [], d, ok, _, _ => .inl ⟨rfl, ⟨ok, by simp [Dk.writes]; omega, fun h => h, rfl⟩, rfl, rfl, by simp [Dk.writes, padT]⟩
  | x :: r, d, ok, hf, hT => by
    cases hw : (d.write x.1 x.2).1
    · have e : d.writes (x :: r) = (false, (d.write x.1 x.2).2) := by simp [Dk.writes, hw]
      rw [e]
      obtain ⟨a, b, c⟩ := Dk.write_fail hw ok hf
      exact .inr ⟨rfl, a, b, 0, by simp [c]⟩
    · have e : d.writes (x :: r) = (d.write x.1 x.2).2.writes r := by simp [Dk.writes, hw]
      rw [e]
      obtain ⟨ok1, hs1, hl1⟩ := Dk.write_ok hw ok (hT x (by simp))
      have hf1 := Dk.write_f hw ok
      have hc1 := fun h => Dk.write_calm (d := d) h x.1 x.2
      rcases Dk.writes_cases r _ ok1 (by omega) (fun y hy => by rw [hs1]; exact hT y (by simp [hy])) with ⟨h1, h2, h3, h4, h5⟩ | ⟨h1, h2, h4, j, h5⟩
      · refine .inl ⟨h1, ⟨h2.ok, by rw [h3, hf1]; omega, fun h => h2.calm (hc1 h), by rw [h2.len, hs1]⟩, by rw [h3, hf1], by rw [h4, hs1], ?_⟩
        rw [h5, hl1]; simp [padT]
      · refine .inr ⟨h1, { ok := h2.ok, f := by have := h2.f; omega, calm := fun h => h2.calm (hc1 h), len := by rw [h2.len, hs1], dead := fun h => h2.dead (hc1 h), fe := by have := h2.fe; omega }, by rw [h4, hs1], j + 1, ?_⟩
        rw [h5, hl1]; simp [padT]

/-- What 'through' leaves. -/
theorem Dk.through_cases (d : Dk) (T ps : List (Nat × ByteArray)) (ok : d.Ok) (hf : d.failed + 1 ≤ 9223372036854775806) (hl : d.late = []) (hs : 0 < d.safe.length) (hT : ∀ x ∈ T, x.1 < d.safe.length) :
    ((d.through T ps).1 = false ∧ Fell d (d.through T ps).2 ∧ (d.through T ps).2.safe = d.safe ∧ ∃ j, (d.through T ps).2.late = (padT T).take j) ∨
    ((d.through T ps).1 = false ∧ Fell d (d.through T ps).2 ∧ (d.through T ps).2.safe = lay d.safe (padT T) ∧ ((d.through T ps).2.late = [] ∨ (d.through T ps).2.late = [(0, pad (recB ps))])) ∨
    ((d.through T ps).1 = true ∧ Aft d (d.through T ps).2 ∧ (d.through T ps).2.failed = d.failed ∧ (d.through T ps).2.safe = lay (lay d.safe (padT T)) [(0, pad (recB ps))] ∧ (d.through T ps).2.late = []) := by
  rcases Dk.writes_cases T d ok hf hT with ⟨h1, h2, h3, h4, h5⟩ | ⟨h1, h2, h4, j, h5⟩
  · rw [hl, List.nil_append] at h5
    cases hfl : (d.writes T).2.flush.1
    · have e : d.through T ps = (false, (d.writes T).2.flush.2) := by simp [Dk.through, h1, hfl]
      rw [e]
      obtain ⟨a, b, c⟩ := Dk.flush_fail hfl h2.ok (by omega)
      refine .inl ⟨rfl, { ok := a.ok, f := by have := a.f; (try simp only); omega, calm := fun h => a.calm (h2.calm h), len := by rw [a.len, h2.len], dead := fun h => a.dead (h2.calm h), fe := by have := a.fe; (try simp only); omega }, by rw [b, h4], (padT T).length, ?_⟩
      rw [c, h5, List.take_length]
    · obtain ⟨ok2, hs2, hl2⟩ := Dk.flush_ok hfl h2.ok
      have hf2 := Dk.flush_f hfl h2.ok
      have hc2 := fun h => Dk.flush_calm (h2.calm h)
      have hlen2 : (d.writes T).2.flush.2.safe.length = d.safe.length := by rw [hs2, lay_len, h4]
      rw [h4, h5] at hs2
      have e : d.through T ps = (d.writes T).2.flush.2.setRec ps := by simp [Dk.through, h1, hfl]
      rw [e]
      cases hr : ((d.writes T).2.flush.2.write 0 (recB ps)).1
      · have e2 : (d.writes T).2.flush.2.setRec ps = (false, ((d.writes T).2.flush.2.write 0 (recB ps)).2) := by simp [Dk.setRec, hr]
        rw [e2]
        obtain ⟨a, b, c⟩ := Dk.write_fail hr ok2 (by omega)
        exact .inr (.inl ⟨rfl, { ok := a.ok, f := by have := a.f; (try simp only); omega, calm := fun h => a.calm (hc2 h), len := by rw [a.len, hlen2], dead := fun h => a.dead (hc2 h), fe := by have := a.fe; (try simp only); omega }, by rw [b, hs2], .inl (by rw [c, hl2])⟩)
      · have e2 : (d.writes T).2.flush.2.setRec ps = ((d.writes T).2.flush.2.write 0 (recB ps)).2.flush := by simp [Dk.setRec, hr]
        rw [e2]
        obtain ⟨ok3, hs3, hl3⟩ := Dk.write_ok hr ok2 (by rw [hlen2]; exact hs)
        have hf3 := Dk.write_f hr ok2
        have hc3 := fun h => Dk.write_calm (hc2 h) 0 (recB ps)
        rw [hl2, List.nil_append] at hl3
        cases hfl3 : ((d.writes T).2.flush.2.write 0 (recB ps)).2.flush.1
        · obtain ⟨a, b, c⟩ := Dk.flush_fail hfl3 ok3 (by omega)
          exact .inr (.inl ⟨rfl, { ok := a.ok, f := by have := a.f; (try simp only); omega, calm := fun h => a.calm (hc3 h), len := by rw [a.len, hs3, hlen2], dead := fun h => a.dead (hc3 h), fe := by have := a.fe; (try simp only); omega }, by rw [b, hs3, hs2], .inr (by rw [c, hl3])⟩)
        · obtain ⟨ok4, hs4, hl4⟩ := Dk.flush_ok hfl3 ok3
          have hf4 := Dk.flush_f hfl3 ok3
          exact .inr (.inr ⟨rfl, ⟨ok4, by omega, fun h => Dk.flush_calm (hc3 h), by rw [hs4, lay_len, hs3, hlen2]⟩, by omega, by rw [hs4, hs3, hl3, hs2], hl4⟩)
  · rw [hl, List.nil_append] at h5
    have e : d.through T ps = (false, (d.writes T).2) := by simp [Dk.through, h1]
    rw [e]
    exact .inl ⟨rfl, h2, h4, j, h5⟩

/-- A disk that neither fails nor dies. -/
def Dk.Well (d : Dk) : Prop := d.wait = -1 ∧ d.life = -1
theorem Dk.changes_well {d : Dk} (h : d.Well) : d.changes = (true, d) := by
  obtain ⟨h1, h2⟩ := h
  cases d
  simp only at h1 h2
  subst h1 h2
  simp [Dk.changes]
theorem Dk.write_well {d : Dk} (h : d.Well) (a : Nat) (s : ByteArray) : (d.write a s).1 = true ∧ (d.write a s).2.Well := by
  simp only [Dk.write, Dk.changes_well h, if_true]
  exact ⟨trivial, h⟩
theorem Dk.flush_well {d : Dk} (h : d.Well) : d.flush.1 = true ∧ d.flush.2.Well := by
  simp only [Dk.flush, Dk.changes_well h, if_true]
  exact ⟨trivial, h⟩
theorem Dk.writes_well : ∀ (T : List (Nat × ByteArray)) (d : Dk), d.Well → (d.writes T).1 = true ∧ (d.writes T).2.Well
  | [], d, h => ⟨rfl, h⟩
  | x :: r, d, h => by
    obtain ⟨a, b⟩ := Dk.write_well h x.1 x.2
    simp only [Dk.writes, a, if_true]
    exact Dk.writes_well r _ b
theorem Dk.through_well {d : Dk} (h : d.Well) (T ps : List (Nat × ByteArray)) : (d.through T ps).1 = true ∧ (d.through T ps).2.Well := by
  obtain ⟨a, b⟩ := Dk.writes_well T d h
  obtain ⟨a1, b1⟩ := Dk.flush_well b
  obtain ⟨a2, b2⟩ := Dk.write_well b1 0 (recB ps)
  obtain ⟨a3, b3⟩ := Dk.flush_well b2
  simp only [Dk.through, a, a1, if_true, Dk.setRec, a2]
  exact ⟨a3, b3⟩
theorem Dk.flush_none {d : Dk} (h : d.Well) (hl : d.late = []) : d.flush = (true, d) := by
  simp only [Dk.flush, Dk.changes_well h, if_true]
  rw [hl]
  congr 1
  cases d
  simp only at hl
  subst hl
  rfl
end Go.Proofs.YtcbindgpbeaebaaGreatDoor

namespace Go.Proofs.YtcbindgpbeaebaaGreatDoor

/-- A block as it is read where nothing is late. -/
def rd (S : List ByteArray) (i : Nat) : ByteArray := blk ((S[i]?).getD ⟨#[]⟩)
theorem read_rd {d : Dk} (h : d.late = []) (i : Nat) : d.read i = rd d.safe i := by simp [Dk.read, h, lastOf, rd]
theorem blk_full {s : ByteArray} (h : s.size = 256) : blk s = s := by
  unfold blk
  rw [if_neg]
  intro e
  rw [e] at h
  exact absurd h (by decide)
theorem pad_size {s : ByteArray} (h : s.size ≤ 256) : (pad s).size = 256 := by
  have := pad_len s h
  rw [Array.length_toList] at this
  exact this
theorem pad_full {s : ByteArray} (h : s.size = 256) : pad s = s := by
  have e : (pad s).data.toList = s.data.toList := by rw [pad_list, h]; simp
  have e2 : (pad s).data = s.data := Array.ext' e
  exact ByteArray.ext e2

theorem lastOf_none_of {X : List (Nat × ByteArray)} {i : Nat} (h : ∀ x ∈ X, x.1 ≠ i) : lastOf X i = none :=
  lastOf_none X i fun _ p hj => h p (List.mem_of_getElem? hj)
theorem lay_last : ∀ (X : List (Nat × ByteArray)) (S : List ByteArray) (i : Nat), i < S.length → (lay S X)[i]? = some ((lastOf X i).getD ((S[i]?).getD ⟨#[]⟩))
  | [], S, i, h => by simp [lay, lastOf, h]
  | x :: r, S, i, h => by
    have ih := lay_last r (S.set x.1 x.2) i (by simpa using h)
    have e : lay S (x :: r) = lay (S.set x.1 x.2) r := rfl
    rw [e, ih, lastOf]
    congr 1
    cases hl : lastOf r i with
    | some s => rfl
    | none =>
      by_cases hx : x.1 = i
      · subst hx
        simp [h]
      · simp [hx, List.getElem?_set_ne]
theorem rd_lay {X : List (Nat × ByteArray)} {S : List ByteArray} {i : Nat} (h : i < S.length) : rd (lay S X) i = blk ((lastOf X i).getD ((S[i]?).getD ⟨#[]⟩)) := by
  rw [rd, lay_last X S i h]; rfl
theorem rd_lay_none {X : List (Nat × ByteArray)} {S : List ByteArray} {i : Nat} (h : i < S.length) (hn : lastOf X i = none) : rd (lay S X) i = rd S i := by
  rw [rd_lay h, hn]; rfl
theorem rd_lay_some {X : List (Nat × ByteArray)} {S : List ByteArray} {i : Nat} {s : ByteArray} (h : i < S.length) (hn : lastOf X i = some s) : rd (lay S X) i = blk s := by
  rw [rd_lay h, hn]; rfl
theorem kept_mem : ∀ (l : List (Nat × ByteArray)) (ks : List Int) (x : Nat × ByteArray), x ∈ kept l ks → x ∈ l
  | [], _, _, h => by simp [kept] at h
  | _ :: _, [], _, h => by simp [kept] at h
  | p :: r, k :: ks, x, h => by
    simp only [kept] at h
    split at h
    · rcases List.mem_cons.1 h with h | h
      · simp [h]
      · simp [kept_mem r ks x h]
    · simp [kept_mem r ks x h]

theorem lastOf_padT : ∀ (X : List (Nat × ByteArray)) (i : Nat), lastOf (padT X) i = (lastOf X i).map pad
  | [], _ => rfl
  | x :: r, i => by
    have ih := lastOf_padT r i
    simp only [padT] at ih ⊢
    simp only [List.map_cons, lastOf, ih]
    cases lastOf r i with
    | some s => rfl
    | none =>
      simp only [Option.map_none]
      split <;> rfl
theorem lastOf_home : ∀ (ps : List (Nat × ByteArray)) (i : Nat), lastOf (home ps) (90 + i) = lastOf ps i
  | [], _ => rfl
  | x :: r, i => by
    have ih := lastOf_home r i
    simp only [home] at ih ⊢
    simp only [List.map_cons, lastOf, ih]
    cases lastOf r i with
    | some s => rfl
    | none =>
      by_cases h : x.1 = i
      · simp [h]
      · simp [h]
theorem lastOf_mem : ∀ (X : List (Nat × ByteArray)) (i : Nat) (s : ByteArray), lastOf X i = some s → ∃ x ∈ X, x.2 = s
  | [], _, _, h => by simp [lastOf] at h
  | x :: r, i, s, h => by
    rw [lastOf] at h
    cases hr : lastOf r i with
    | some t =>
      rw [hr] at h
      obtain ⟨y, hy, e⟩ := lastOf_mem r i s (by rw [hr]; exact h)
      exact ⟨y, by simp [hy], e⟩
    | none =>
      rw [hr] at h
      by_cases hx : x.1 = i
      · simp [hx] at h; exact ⟨x, by simp, h⟩
      · simp [hx] at h
theorem room_low : ∀ (ps : List (Nat × ByteArray)) (i : Nat) (x : Nat × ByteArray), x ∈ room i ps → 1 + i ≤ x.1
  | [], _, _, h => by simp [room] at h
  | q :: r, i, x, h => by
    simp only [room, List.mem_cons] at h
    rcases h with rfl | h
    · exact Nat.le_refl _
    · have := room_low r (i + 1) x h; omega
theorem lastOf_room : ∀ (ps : List (Nat × ByteArray)) (i k : Nat) (p : Nat × ByteArray), ps[k]? = some p → lastOf (room i ps) (1 + (i + k)) = some p.2
  | [], _, _, _, h => by simp at h
  | q :: r, i, 0, p, h => by
    simp at h; subst h
    rw [room, lastOf, lastOf_none_of (X := room (i + 1) r)]
    · simp
    · intro x hx
      have := room_low r (i + 1) x hx
      omega
  | q :: r, i, k + 1, p, h => by
    have ih := lastOf_room r (i + 1) k p (by simpa using h)
    rw [room, lastOf, show 1 + (i + (k + 1)) = 1 + (i + 1 + k) by omega, ih]

theorem padT_mem {X : List (Nat × ByteArray)} {x : Nat × ByteArray} (h : x ∈ padT X) : ∃ y ∈ X, x = (y.1, pad y.2) := by
  simp only [padT, List.mem_map] at h
  obtain ⟨y, hy, e⟩ := h
  exact ⟨y, hy, e.symm⟩
theorem home_mem {ps : List (Nat × ByteArray)} {x : Nat × ByteArray} (h : x ∈ home ps) : ∃ p ∈ ps, x = (90 + p.1, p.2) := by
  simp only [home, List.mem_map] at h
  obtain ⟨y, hy, e⟩ := h
  exact ⟨y, hy, e.symm⟩

/-- The record tells its numbers. -/
theorem recOf_at : ∀ (ps : List (Nat × ByteArray)) (n i : Nat) (p : Nat × ByteArray), ps[i]? = some p → (recOf n ps)[1 + 2 * i]? = some (UInt8.ofNat (p.1 / 256)) ∧ (recOf n ps)[2 + 2 * i]? = some (UInt8.ofNat p.1)
  | [], _, _, _, h => by simp at h
  | q :: r, n, 0, p, h => by simp at h; subst h; simp [recOf]
  | q :: r, n, i + 1, p, h => by
    have ih := recOf_at r n i p (by simpa using h)
    have e1 : 1 + 2 * (i + 1) = (1 + 2 * i) + 1 + 1 := by omega
    have e2 : 2 + 2 * (i + 1) = (2 + 2 * i) + 1 + 1 := by omega
    have f1 : 1 + 2 * i = 2 * i + 1 := by omega
    have f2 : 2 + 2 * i = 2 * i + 1 + 1 := by omega
    rw [e1, e2]
    rw [f1, f2] at ih ⊢
    simpa [recOf] using ih
theorem tells_rec (ps : List (Nat × ByteArray)) (hl : ps.length ≤ 80) (hb : ∀ p ∈ ps, p.1 < 4096) : Tells (pad (recB ps)) ps := by
  have hp : (pad (recB ps)).data.toList = recOf ps.length ps ++ List.replicate (256 - (recB ps).size) 0 := pad_list (recB ps)
  have hlen := recOf_len ps.length ps
  have key : ∀ (i : Nat) (hh : i < (pad (recB ps)).size) (b : UInt8), (recOf ps.length ps)[i]? = some b → (pad (recB ps))[i] = b := by
    intro i hh b hb
    have h1 : (pad (recB ps)).data.toList[i]? = some b := by
      rw [hp, List.getElem?_append_left (List.getElem?_eq_some_iff.1 hb).1]
      exact hb
    have h2 : (pad (recB ps)).data[i]? = some b := by rw [← Array.getElem?_toList]; exact h1
    obtain ⟨_, h3⟩ := Array.getElem?_eq_some_iff.1 h2
    exact h3
  refine ⟨pad_size (recB_size ps hl), ?_, ?_, ?_⟩
  · intro hh
    rw [key 0 hh (UInt8.ofNat ps.length) (by simp [recOf])]
    simp; omega
  · intro i p hh hi
    rw [key _ hh _ (recOf_at ps _ i p hi).1]
    have := hb p (List.mem_of_getElem? hi)
    simp; omega
  · intro i p hh hi
    rw [key _ hh _ (recOf_at ps _ i p hi).2]
    simp
end Go.Proofs.YtcbindgpbeaebaaGreatDoor

namespace Go.Proofs.YtcbindgpbeaebaaGreatDoor

theorem lastOf_eq_none : ∀ (X : List (Nat × ByteArray)) (i : Nat), lastOf X i = none → ∀ x ∈ X, x.1 ≠ i
  | [], _, _, x, hx => by simp at hx
  | y :: r, i, h, x, hx => by
    rw [lastOf] at h
    cases hr : lastOf r i with
    | some t => rw [hr] at h; cases h
    | none =>
      rw [hr] at h
      rcases List.mem_cons.1 hx with rfl | hx
      · intro e; simp [e] at h
      · exact lastOf_eq_none r i hr x hx

section
variable (S : List ByteArray) (ps : List (Nat × ByteArray))
/-- Nothing is done. -/
def OutA (S2 : List ByteArray) : Prop := rd S2 0 = pad (recB []) ∧ ∀ i, 90 + i < S.length → rd S2 (90 + i) = rd S (90 + i)
/-- The record stands. -/
def OutB (S2 : List ByteArray) : Prop := rd S2 0 = pad (recB ps) ∧ (∀ k p, ps[k]? = some p → rd S2 (1 + k) = p.2) ∧ ∀ i, 90 + i < S.length → lastOf ps i = none → rd S2 (90 + i) = rd S (90 + i)
/-- All is done. -/
def OutC (S2 : List ByteArray) : Prop := rd S2 0 = pad (recB []) ∧ ∀ i, 90 + i < S.length → rd S2 (90 + i) = (lastOf ps i).getD (rd S (90 + i))
end


theorem in_room {ps : List (Nat × ByteArray)} (hp : ps.length ≤ 80) {K : List (Nat × ByteArray)} (hK : ∀ x ∈ K, x ∈ padT (room 0 ps)) : lastOf K 0 = none ∧ ∀ i, lastOf K (90 + i) = none := by
  have h : ∀ x ∈ K, 1 ≤ x.1 ∧ x.1 ≤ 80 := fun x hx => by
    obtain ⟨y, hy, rfl⟩ := padT_mem (hK x hx)
    have := room_mem ps 0 y hy
    simp only; omega
  exact ⟨lastOf_none_of fun x hx => by have := h x hx; omega, fun i => lastOf_none_of fun x hx => by have := h x hx; omega⟩
theorem in_home {ps : List (Nat × ByteArray)} {K : List (Nat × ByteArray)} (hK : ∀ x ∈ K, x ∈ padT (home ps)) : lastOf K 0 = none ∧ (∀ k, k < 80 → lastOf K (1 + k) = none) ∧ ∀ i, lastOf ps i = none → lastOf K (90 + i) = none := by
  have h : ∀ x ∈ K, ∃ p ∈ ps, x.1 = 90 + p.1 := fun x hx => by
    obtain ⟨y, hy, rfl⟩ := padT_mem (hK x hx)
    obtain ⟨p, hp, rfl⟩ := home_mem hy
    exact ⟨p, hp, rfl⟩
  refine ⟨lastOf_none_of fun x hx => ?_, fun k hk => lastOf_none_of fun x hx => ?_, fun i hi => lastOf_none_of fun x hx => ?_⟩
  · obtain ⟨p, _, e⟩ := h x hx; omega
  · obtain ⟨p, _, e⟩ := h x hx; omega
  · obtain ⟨p, hp, e⟩ := h x hx
    have := lastOf_eq_none ps i hi p hp
    omega
theorem in_one {K : List (Nat × ByteArray)} {s : ByteArray} (hK : ∀ x ∈ K, x = (0, s)) : (lastOf K 0 = none ∨ lastOf K 0 = some s) ∧ ∀ i, lastOf K (1 + i) = none := by
  refine ⟨?_, fun i => lastOf_none_of fun x hx => by rw [hK x hx]; simp only; omega⟩
  cases h : lastOf K 0 with
  | none => exact .inl rfl
  | some t =>
    obtain ⟨x, hx, e⟩ := lastOf_mem K 0 t h
    rw [hK x hx] at e
    exact .inr (by rw [← e])

theorem rec_full {ps : List (Nat × ByteArray)} (hp : ps.length ≤ 80) : blk (pad (recB ps)) = pad (recB ps) := blk_full (pad_size (recB_size ps hp))
theorem rec_nil : blk (pad (recB [])) = pad (recB []) := blk_full (pad_size (by decide))

/-- Behind the room. -/
theorem st_room {S : List ByteArray} {ps : List (Nat × ByteArray)} (hN : 90 < S.length) (hp : ps.length ≤ 80) (hz : ∀ p ∈ ps, p.2.size = 256) : rd (lay S (padT (room 0 ps))) 0 = rd S 0 ∧ (∀ k p, ps[k]? = some p → rd (lay S (padT (room 0 ps))) (1 + k) = p.2) ∧ ∀ i, 90 + i < S.length → rd (lay S (padT (room 0 ps))) (90 + i) = rd S (90 + i) := by
  obtain ⟨h0, h9⟩ := in_room hp (K := padT (room 0 ps)) fun x hx => hx
  refine ⟨rd_lay_none (by omega) h0, fun k p hk => ?_, fun i hi => rd_lay_none hi (h9 i)⟩
  have hk' : k < ps.length := (List.getElem?_eq_some_iff.1 hk).1
  have hl := lastOf_room ps 0 k p hk
  rw [Nat.zero_add] at hl
  have hs := hz p (List.mem_of_getElem? hk)
  rw [rd_lay_some (s := p.2) (by omega) (by rw [lastOf_padT, hl]; simp [pad_full hs])]
  exact blk_full hs

/-- Behind the record. -/
theorem st_rec {S : List ByteArray} {ps : List (Nat × ByteArray)} (hN : 90 < S.length) (hp : ps.length ≤ 80) (hz : ∀ p ∈ ps, p.2.size = 256) : rd (lay (lay S (padT (room 0 ps))) [(0, pad (recB ps))]) 0 = pad (recB ps) ∧ (∀ k p, ps[k]? = some p → rd (lay (lay S (padT (room 0 ps))) [(0, pad (recB ps))]) (1 + k) = p.2) ∧ ∀ i, 90 + i < S.length → rd (lay (lay S (padT (room 0 ps))) [(0, pad (recB ps))]) (90 + i) = rd S (90 + i) := by
  obtain ⟨a, b, c⟩ := st_room hN hp hz
  have hlen := lay_len (padT (room 0 ps)) S
  have h1 := (in_one (K := [(0, pad (recB ps))]) (s := pad (recB ps)) (fun x hx => by simpa using hx)).2
  refine ⟨?_, fun k p hk => ?_, fun i hi => ?_⟩
  · rw [rd_lay_some (s := pad (recB ps)) (by omega) (by simp [lastOf])]
    exact rec_full hp
  · have hk' : k < ps.length := (List.getElem?_eq_some_iff.1 hk).1
    rw [rd_lay_none (by omega) (h1 k)]
    exact b k p hk
  · rw [rd_lay_none (by omega) (by rw [show 90 + i = 1 + (89 + i) by omega]; exact h1 _)]
    exact c i hi

/-- Behind the places where they belong. -/
theorem st_home {S : List ByteArray} {ps : List (Nat × ByteArray)} (hN : 90 < S.length) (hp : ps.length ≤ 80) (hz : ∀ p ∈ ps, p.2.size = 256) : rd (lay (lay (lay S (padT (room 0 ps))) [(0, pad (recB ps))]) (padT (home ps))) 0 = pad (recB ps) ∧ (∀ k p, ps[k]? = some p → rd (lay (lay (lay S (padT (room 0 ps))) [(0, pad (recB ps))]) (padT (home ps))) (1 + k) = p.2) ∧
    ∀ i, 90 + i < S.length → rd (lay (lay (lay S (padT (room 0 ps))) [(0, pad (recB ps))]) (padT (home ps))) (90 + i) = (lastOf ps i).getD (rd S (90 + i)) := by
  obtain ⟨a, b, c⟩ := st_rec hN hp hz
  obtain ⟨h0, h1, h9⟩ := in_home (K := padT (home ps)) fun x hx => hx
  have hlen : (lay (lay S (padT (room 0 ps))) [(0, pad (recB ps))]).length = S.length := by rw [lay_len, lay_len]
  refine ⟨?_, fun k p hk => ?_, fun i hi => ?_⟩
  · rw [rd_lay_none (by omega) h0]; exact a
  · have hk' : k < ps.length := (List.getElem?_eq_some_iff.1 hk).1
    rw [rd_lay_none (by omega) (h1 k (by omega))]; exact b k p hk
  · cases hl : lastOf ps i with
    | none => rw [rd_lay_none (by omega) (h9 i hl), c i hi]; rfl
    | some s =>
      obtain ⟨x, hx, e⟩ := lastOf_mem ps i s hl
      have hs := hz x hx
      rw [e] at hs
      rw [rd_lay_some (s := s) (by omega) (by rw [lastOf_padT, lastOf_home, hl]; simp [pad_full hs]), blk_full hs]
      rfl

theorem out1 {S : List ByteArray} {ps : List (Nat × ByteArray)} (hN : 90 < S.length) (hp : ps.length ≤ 80) (hclr : rd S 0 = pad (recB [])) {K : List (Nat × ByteArray)} (hK : ∀ x ∈ K, x ∈ padT (room 0 ps)) : OutA S (lay S K) := by
  obtain ⟨h0, h9⟩ := in_room hp hK
  exact ⟨(rd_lay_none (by omega) h0).trans hclr, fun i hi => rd_lay_none hi (h9 i)⟩
theorem out2 {S : List ByteArray} {ps : List (Nat × ByteArray)} (hN : 90 < S.length) (hp : ps.length ≤ 80) (hz : ∀ p ∈ ps, p.2.size = 256) (hclr : rd S 0 = pad (recB [])) {K : List (Nat × ByteArray)} (hK : ∀ x ∈ K, x = (0, pad (recB ps))) : OutA S (lay (lay S (padT (room 0 ps))) K) ∨ OutB S ps (lay (lay S (padT (room 0 ps))) K) := by
  obtain ⟨a, b, c⟩ := st_room hN hp hz
  have hlen := lay_len (padT (room 0 ps)) S
  obtain ⟨h0, h1⟩ := in_one hK
  have h9 : ∀ i, 90 + i < S.length → rd (lay (lay S (padT (room 0 ps))) K) (90 + i) = rd S (90 + i) := fun i hi => by
    rw [rd_lay_none (by omega) (by rw [show 90 + i = 1 + (89 + i) by omega]; exact h1 _)]; exact c i hi
  rcases h0 with h0 | h0
  · exact .inl ⟨by rw [rd_lay_none (by omega) h0, a]; exact hclr, h9⟩
  · refine .inr ⟨by rw [rd_lay_some (by omega) h0]; exact rec_full hp, fun k p hk => ?_, fun i hi _ => h9 i hi⟩
    have hk' : k < ps.length := (List.getElem?_eq_some_iff.1 hk).1
    rw [rd_lay_none (by omega) (h1 k)]; exact b k p hk
theorem out3 {S : List ByteArray} {ps : List (Nat × ByteArray)} (hN : 90 < S.length) (hp : ps.length ≤ 80) (hz : ∀ p ∈ ps, p.2.size = 256) {K : List (Nat × ByteArray)} (hK : ∀ x ∈ K, x ∈ padT (home ps)) : OutB S ps (lay (lay (lay S (padT (room 0 ps))) [(0, pad (recB ps))]) K) := by
  obtain ⟨a, b, c⟩ := st_rec hN hp hz
  obtain ⟨h0, h1, h9⟩ := in_home hK
  have hlen : (lay (lay S (padT (room 0 ps))) [(0, pad (recB ps))]).length = S.length := by rw [lay_len, lay_len]
  refine ⟨by rw [rd_lay_none (by omega) h0]; exact a, fun k p hk => ?_, fun i hi hn => by rw [rd_lay_none (by omega) (h9 i hn)]; exact c i hi⟩
  have hk' : k < ps.length := (List.getElem?_eq_some_iff.1 hk).1
  rw [rd_lay_none (by omega) (h1 k (by omega))]; exact b k p hk
theorem out4 {S : List ByteArray} {ps : List (Nat × ByteArray)} (hN : 90 < S.length) (hp : ps.length ≤ 80) (hz : ∀ p ∈ ps, p.2.size = 256) {K : List (Nat × ByteArray)} (hK : ∀ x ∈ K, x = (0, pad (recB []))) : OutB S ps (lay (lay (lay (lay S (padT (room 0 ps))) [(0, pad (recB ps))]) (padT (home ps))) K) ∨ OutC S ps (lay (lay (lay (lay S (padT (room 0 ps))) [(0, pad (recB ps))]) (padT (home ps))) K) := by
  obtain ⟨a, b, c⟩ := st_home hN hp hz
  have hlen : (lay (lay (lay S (padT (room 0 ps))) [(0, pad (recB ps))]) (padT (home ps))).length = S.length := by rw [lay_len, lay_len, lay_len]
  obtain ⟨h0, h1⟩ := in_one hK
  have h9 : ∀ i, 90 + i < S.length → rd (lay (lay (lay (lay S (padT (room 0 ps))) [(0, pad (recB ps))]) (padT (home ps))) K) (90 + i) = (lastOf ps i).getD (rd S (90 + i)) := fun i hi => by
    rw [rd_lay_none (by omega) (by rw [show 90 + i = 1 + (89 + i) by omega]; exact h1 _)]; exact c i hi
  rcases h0 with h0 | h0
  · refine .inl ⟨by rw [rd_lay_none (by omega) h0]; exact a, fun k p hk => ?_, fun i hi hn => by rw [h9 i hi, hn]; rfl⟩
    have hk' : k < ps.length := (List.getElem?_eq_some_iff.1 hk).1
    rw [rd_lay_none (by omega) (h1 k)]; exact b k p hk
  · exact .inr ⟨by rw [rd_lay_some (by omega) h0]; exact rec_nil, h9⟩
theorem out5 {S : List ByteArray} {ps : List (Nat × ByteArray)} (hN : 90 < S.length) (hp : ps.length ≤ 80) (hz : ∀ p ∈ ps, p.2.size = 256) : OutC S ps (lay (lay (lay (lay S (padT (room 0 ps))) [(0, pad (recB ps))]) (padT (home ps))) [(0, pad (recB []))]) := by
  obtain ⟨a, b, c⟩ := st_home hN hp hz
  have hlen : (lay (lay (lay S (padT (room 0 ps))) [(0, pad (recB ps))]) (padT (home ps))).length = S.length := by rw [lay_len, lay_len, lay_len]
  have h1 := (in_one (K := [(0, pad (recB []))]) (s := pad (recB [])) (fun x hx => by simpa using hx)).2
  refine ⟨by rw [rd_lay_some (s := pad (recB [])) (by omega) (by simp [lastOf])]; exact rec_nil, fun i hi => ?_⟩
  rw [rd_lay_none (by omega) (by rw [show 90 + i = 1 + (89 + i) by omega]; exact h1 _)]
  exact c i hi

/-- What a Commit leaves, behind any crash. -/
theorem commit_crash (d : Dk) (ps : List (Nat × ByteArray)) (ok : d.Ok) (hf : d.failed + 1 ≤ 9223372036854775806) (hl : d.late = []) (hN : 90 < d.safe.length) (hp0 : 0 < ps.length) (hp : ps.length ≤ 80) (hb4 : ∀ p ∈ ps, 90 + p.1 < d.safe.length) (hz : ∀ p ∈ ps, p.2.size = 256) (hclr : rd d.safe 0 = pad (recB [])) :
    (commitL d ps false).2.1.Ok ∧ (commitL d ps false).2.1.failed ≤ d.failed + 1 ∧ (commitL d ps false).2.1.safe.length = d.safe.length ∧ (commitL d ps false).2.1.late.length ≤ 80 ∧ (d.wait = -1 → (commitL d ps false).2.1.wait = -1) ∧
    (((commitL d ps false).1 = 9 ∧ (commitL d ps false).2.2 = true ∧ (d.wait = -1 → (commitL d ps false).2.1.life = 0) ∧
        ∀ ks, OutA d.safe (lay (commitL d ps false).2.1.safe (kept (commitL d ps false).2.1.late ks)) ∨ OutB d.safe ps (lay (commitL d ps false).2.1.safe (kept (commitL d ps false).2.1.late ks)) ∨ OutC d.safe ps (lay (commitL d ps false).2.1.safe (kept (commitL d ps false).2.1.late ks))) ∨
     ((commitL d ps false).1 = 0 ∧ (commitL d ps false).2.2 = false ∧ (commitL d ps false).2.1.late = [] ∧ (commitL d ps false).2.1.failed = d.failed ∧ OutC d.safe ps (commitL d ps false).2.1.safe)) := by
  have hp0' : ps.length ≠ 0 := by omega
  have hrm : ∀ x ∈ room 0 ps, x.1 < d.safe.length := fun x hx => by have := room_mem ps 0 x hx; omega
  have hrl : (padT (room 0 ps)).length ≤ 80 := by simp [padT, room_len]; omega
  have hhl : (padT (home ps)).length ≤ 80 := by simp [padT, home_len]; omega
  rcases Dk.through_cases d (room 0 ps) ps ok (by omega) hl (by omega) hrm with ⟨h1, h2, h3, j, h4⟩ | ⟨h1, h2, h3, h4⟩ | ⟨h1, h2, h2f, h3, h4⟩
  · have e : commitL d ps false = (9, (d.through (room 0 ps) ps).2, true) := by simp [commitL, h1, hp0']
    rw [e]
    refine ⟨h2.ok, h2.f, h2.len, by simp only; rw [h4, List.length_take]; omega, h2.calm, .inl ⟨rfl, rfl, h2.dead, fun ks => ?_⟩⟩
    simp only
    rw [h3, h4]
    exact .inl (out1 hN hp hclr fun x hx => List.mem_of_mem_take (kept_mem _ _ x hx))
  · have e : commitL d ps false = (9, (d.through (room 0 ps) ps).2, true) := by simp [commitL, h1, hp0']
    rw [e]
    refine ⟨h2.ok, h2.f, h2.len, by simp only; rcases h4 with h4 | h4 <;> rw [h4] <;> simp, h2.calm, .inl ⟨rfl, rfl, h2.dead, fun ks => ?_⟩⟩
    simp only
    rw [h3]
    have := out2 hN hp hz hclr (K := kept (d.through (room 0 ps) ps).2.late ks) (fun x hx => by
      have hx := kept_mem _ _ x hx
      rcases h4 with h4 | h4
      · rw [h4] at hx; simp at hx
      · rw [h4] at hx; simpa using hx)
    rcases this with h | h
    · exact .inl h
    · exact .inr (.inl h)
  · have hlen1 := h2.len
    have hhm : ∀ x ∈ home ps, x.1 < (d.through (room 0 ps) ps).2.safe.length := fun x hx => by
      obtain ⟨p, hp, rfl⟩ := home_mem hx
      rw [hlen1]; exact hb4 p hp
    rcases Dk.through_cases (d.through (room 0 ps) ps).2 (home ps) [] h2.ok (by omega) h4 (by omega) hhm with ⟨g1, g2, g3, j, g4⟩ | ⟨g1, g2, g3, g4⟩ | ⟨g1, g2, g2f, g3, g4⟩
    · have e : commitL d ps false = (9, ((d.through (room 0 ps) ps).2.through (home ps) []).2, true) := by simp [commitL, h1, g1, hp0']
      rw [e]
      refine ⟨g2.ok, by have := g2.f; simp only; omega, by simp only; rw [g2.len, hlen1], by simp only; rw [g4, List.length_take]; omega, fun h => g2.calm (h2.calm h), .inl ⟨rfl, rfl, fun h => g2.dead (h2.calm h), fun ks => ?_⟩⟩
      simp only
      rw [g3, h3, g4]
      exact .inr (.inl (out3 hN hp hz fun x hx => List.mem_of_mem_take (kept_mem _ _ x hx)))
    · have e : commitL d ps false = (9, ((d.through (room 0 ps) ps).2.through (home ps) []).2, true) := by simp [commitL, h1, g1, hp0']
      rw [e]
      refine ⟨g2.ok, by have := g2.f; simp only; omega, by simp only; rw [g2.len, hlen1], by simp only; rcases g4 with g4 | g4 <;> rw [g4] <;> simp, fun h => g2.calm (h2.calm h), .inl ⟨rfl, rfl, fun h => g2.dead (h2.calm h), fun ks => ?_⟩⟩
      simp only
      rw [g3, h3]
      exact .inr (out4 hN hp hz (K := kept ((d.through (room 0 ps) ps).2.through (home ps) []).2.late ks) fun x hx => by
        have hx := kept_mem _ _ x hx
        rcases g4 with g4 | g4
        · rw [g4] at hx; simp at hx
        · rw [g4] at hx; simpa using hx)
    · have e : commitL d ps false = (0, ((d.through (room 0 ps) ps).2.through (home ps) []).2, false) := by simp [commitL, h1, g1, hp0']
      rw [e]
      refine ⟨g2.ok, by simp only; omega, by simp only; rw [g2.len, hlen1], by simp only; rw [g4]; simp, fun h => g2.calm (h2.calm h), .inr ⟨rfl, rfl, g4, by simp only; omega, ?_⟩⟩
      simp only
      rw [g3, h3]
      exact out5 hN hp hz

/-- What Open makes of it: all is as it was, or all is done. -/
theorem open_finds (d2 : Dk) (S : List ByteArray) (ps : List (Nat × ByteArray)) (ok : d2.Ok) (hf : d2.failed + 2 ≤ 9223372036854775806) (hw : d2.Well) (hl : d2.late = []) (hlen : d2.safe.length = S.length) (hN : 90 < S.length) (hp0 : 0 < ps.length) (hp : ps.length ≤ 80) (hb4 : ∀ p ∈ ps, 90 + p.1 < S.length) (hz : ∀ p ∈ ps, p.2.size = 256)
    (h : OutA S d2.safe ∨ OutB S ps d2.safe ∨ OutC S ps d2.safe) :
    ∃ psR, psR.length ≤ 80 ∧ (∀ p ∈ psR, 90 + p.1 < d2.safe.length) ∧ Tells (d2.flush.2.read 0) psR ∧ (∀ p ∈ inRoom d2.flush.2 0 psR, p.2.size ≤ 256) ∧ (d2.redo psR).1 = true ∧ (d2.redo psR).2.Well ∧ (d2.redo psR).2.Ok ∧ (d2.redo psR).2.failed = d2.failed ∧ (d2.redo psR).2.late = [] ∧ (d2.redo psR).2.safe.length = S.length ∧ rd (d2.redo psR).2.safe 0 = pad (recB []) ∧
      ((OutA S d2.safe ∧ ∀ i, 90 + i < S.length → rd (d2.redo psR).2.safe (90 + i) = rd S (90 + i)) ∨ ∀ i, 90 + i < S.length → rd (d2.redo psR).2.safe (90 + i) = (lastOf ps i).getD (rd S (90 + i))) := by
  have hfl := Dk.flush_none hw hl
  have hn := ok.n
  have e0 : d2.redo [] = (true, d2) := by simp [Dk.redo, hfl, hw.2]
  have t0 : rd d2.safe 0 = pad (recB []) → Tells (d2.flush.2.read 0) [] := fun h => by
    rw [hfl]; simp only; rw [read_rd hl, h]
    exact tells_rec [] (by simp) (by simp)
  rcases h with h | h | h
  · refine ⟨[], by simp, by simp, t0 h.1, by simp [inRoom], by rw [e0], by rw [e0]; exact hw, by rw [e0]; exact ok, by rw [e0], by rw [e0]; exact hl, by rw [e0]; exact hlen, by rw [e0]; exact h.1, .inl ⟨h, by rw [e0]; exact h.2⟩⟩
  · have hroom : inRoom d2 0 ps = ps := by
      apply List.ext_getElem?
      intro k
      cases hk : ps[k]? with
      | none =>
        rw [List.getElem?_eq_none_iff] at hk ⊢
        rw [inRoom_len]; exact hk
      | some p =>
        rw [inRoom_at d2 ps 0 k p hk, Nat.zero_add, read_rd hl, h.2.1 k p hk]
    have e1 : d2.redo ps = d2.through (home ps) [] := by
      have : ps.length ≠ 0 := by omega
      simp only [Dk.redo, hfl, if_true, hw.2, this, hroom]
      simp
    obtain ⟨w1, w2⟩ := Dk.through_well hw (home ps) []
    have hhm : ∀ x ∈ home ps, x.1 < d2.safe.length := fun x hx => by
      obtain ⟨p, hp, rfl⟩ := home_mem hx
      rw [hlen]; exact hb4 p hp
    rcases Dk.through_cases d2 (home ps) [] ok (by omega) hl (by omega) hhm with ⟨g1, _⟩ | ⟨g1, _⟩ | ⟨g1, g2, g2f, g3, g4⟩
    · rw [w1] at g1; cases g1
    · rw [w1] at g1; cases g1
    · have hlen2 : (lay d2.safe (padT (home ps))).length = S.length := by rw [lay_len, hlen]
      have h1 := (in_one (K := [(0, pad (recB []))]) (s := pad (recB [])) (fun x hx => by simpa using hx)).2
      obtain ⟨k0, k1, k9⟩ := in_home (ps := ps) (K := padT (home ps)) fun x hx => hx
      refine ⟨ps, hp, fun p hp => by rw [hlen]; exact hb4 p hp, ?_, ?_, by rw [e1]; exact w1, by rw [e1]; exact w2, by rw [e1]; exact g2.ok, by rw [e1]; exact g2f, by rw [e1]; exact g4, by rw [e1, g2.len, hlen], ?_, .inr fun i hi => ?_⟩
      · rw [hfl]; simp only; rw [read_rd hl, h.1]
        exact tells_rec ps hp fun p hp => by have := hb4 p hp; omega
      · rw [hfl]; simp only; rw [hroom]
        exact fun p hp => Nat.le_of_eq (hz p hp)
      · rw [e1, g3, rd_lay_some (s := pad (recB [])) (by omega) (by simp [lastOf])]
        exact rec_nil
      · rw [e1, g3, rd_lay_none (by omega) (by rw [show 90 + i = 1 + (89 + i) by omega]; exact h1 _)]
        cases hl2 : lastOf ps i with
        | none => rw [rd_lay_none (by omega) (k9 i hl2), h.2.2 i hi hl2]; rfl
        | some s =>
          obtain ⟨x, hx, e⟩ := lastOf_mem ps i s hl2
          have hs := hz x hx
          rw [e] at hs
          rw [rd_lay_some (s := s) (by omega) (by rw [lastOf_padT, lastOf_home, hl2]; simp [pad_full hs]), blk_full hs]
          rfl
  · refine ⟨[], by simp, by simp, t0 h.1, by simp [inRoom], by rw [e0], by rw [e0]; exact hw, by rw [e0]; exact ok, by rw [e0], by rw [e0]; exact hl, by rw [e0]; exact hlen, by rw [e0]; exact h.1, .inr (by rw [e0]; exact h.2)⟩
end Go.Proofs.YtcbindgpbeaebaaGreatDoor

namespace Go.Proofs.YtcbindgpbeaebaaGreatDoor

/-- The puts of the law: so many blocks from the first on, round a hundred. -/
def psOf (first n : Nat) (s : ByteArray) : List (Nat × ByteArray) := (List.range n).map fun k => ((first + k) % 100, pad s)
theorem psOf_len (first n : Nat) (s : ByteArray) : (psOf first n s).length = n := by simp [psOf]
theorem psOf_succ (first n : Nat) (s : ByteArray) : psOf first (n + 1) s = psOf first n s ++ [((first + n) % 100, pad s)] := by simp [psOf, List.range_succ]
theorem psOf_mem {first n : Nat} {s : ByteArray} {p : Nat × ByteArray} (h : p ∈ psOf first n s) : ∃ k, k < n ∧ p = ((first + k) % 100, pad s) := by
  simp only [psOf, List.mem_map, List.mem_range] at h
  obtain ⟨k, hk, e⟩ := h
  exact ⟨k, hk, e.symm⟩
theorem psOf_idx (first n : Nat) (s : ByteArray) (hn : n < 80) : idx (psOf first n s) (((first + n) % 100 : Nat) : Int) = -1 := by
  apply idx_none
  intro j p hj
  obtain ⟨k, hk, rfl⟩ := psOf_mem (List.mem_of_getElem? hj)
  simp only
  omega
/-- The puts of the law, one by one. -/
theorem putL_psOf (first n : Nat) (s : ByteArray) (hn : n < 80) (hs : s.size ≤ 256) : putL 190 (psOf first n s) (((first + n) % 100 : Nat) : Int) s = (0, psOf first (n + 1) s) := by
  have h1 : hasB 190 (((first + n) % 100 : Nat) : Int) = true := by simp [hasB]; omega
  have h2 := psOf_idx first n s hn
  have h3 := psOf_len first n s
  rw [putL, if_neg (by rw [h1]; simp; omega), if_neg (by omega), if_neg (by omega), psOf_succ]
  simp
  omega
theorem lastOf_psOf (first n i : Nat) (s : ByteArray) (hn : n ≤ 100) (hf : first < 100) (hi : i < 100) : lastOf (psOf first n s) i = if (i + 100 - first) % 100 < n then some (pad s) else none := by
  by_cases h : (i + 100 - first) % 100 < n
  · rw [if_pos h]
    have hk : (psOf first n s)[(i + 100 - first) % 100]? = some ((first + (i + 100 - first) % 100) % 100, pad s) := by simp [psOf, h]
    refine lastOf_hit _ i _ _ hk (by simp only; omega) fun j q hj hq => ?_
    obtain ⟨hj2, e⟩ := List.getElem?_eq_some_iff.1 hq
    rw [psOf_len] at hj2
    have : (psOf first n s)[j]? = some ((first + j) % 100, pad s) := by simp [psOf, hj2]
    rw [hq] at this
    cases this
    simp only
    omega
  · rw [if_neg h]
    apply lastOf_none_of
    intro x hx
    obtain ⟨k, hk, rfl⟩ := psOf_mem hx
    simp only
    omega

theorem newDk_ok (n : Nat) (hn : n ≤ 4096) : (newDk n).Ok := ⟨by simp [newDk], by simp [newDk], by simp [newDk], by simp [newDk], by simp [newDk], by simp [newDk], by simp [newDk]; exact hn, by simp [newDk]⟩
theorem newDk_well (n : Nat) : (newDk n).Well := ⟨rfl, rfl⟩
theorem clr_zero : pad (recB []) = zs 256 := by
  apply ByteArray.ext
  apply Array.ext'
  rw [pad_list]
  rfl
theorem rd_new (n i : Nat) : rd (newDk n).safe i = zs 256 := by
  have : ((newDk n).safe[i]?).getD ⟨#[]⟩ = (⟨#[]⟩ : ByteArray) := by
    simp only [newDk, List.getElem?_replicate]
    split <;> rfl
  rw [rd, this]; rfl
/-- Open, on a disk that is new. -/
theorem new_opens (n : Nat) : (newDk n).redo [] = (true, newDk n) ∧ Tells ((newDk n).flush.2.read 0) [] := by
  have hf := Dk.flush_none (newDk_well n) rfl
  refine ⟨?_, ?_⟩
  · simp [Dk.redo, hf, (newDk_well n).2]
  · rw [hf]; simp only; rw [read_rd rfl, rd_new, ← clr_zero]
    exact tells_rec [] (by simp) (by simp)

end Go.Proofs.YtcbindgpbeaebaaGreatDoor
