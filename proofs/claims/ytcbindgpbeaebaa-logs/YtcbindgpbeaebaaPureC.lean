import Derived.Test.YtcbindgpbeaebaaPureB
namespace Go.Proofs.Ytcbindgpbeaebaa

/-- A block as it is read where nothing is late. -/
def rd (S : List ByteArray) (i : Nat) : ByteArray := blk ((S[i]?).getD ⟨#[]⟩)
theorem read_rd {d : Dk} (h : d.late = []) (i : Nat) : d.read i = rd d.safe i := by simp [Dk.read, h, lastOf, rd]
theorem blk_full {s : ByteArray} (h : s.size = 256) : blk s = s := by
  unfold blk
  rw [if_neg]
  intro e
  rw [e] at h
  exact absurd h (by decide)
theorem pad_size {s : ByteArray} (h : s.size ≤ 256) : (pad s).size = 256 := by
  have := pad_len s h
  rw [Array.length_toList] at this
  exact this
theorem pad_full {s : ByteArray} (h : s.size = 256) : pad s = s := by
  have e : (pad s).data.toList = s.data.toList := by rw [pad_list, h]; simp
  have e2 : (pad s).data = s.data := Array.ext' e
  exact ByteArray.ext e2

theorem lastOf_none_of {X : List (Nat × ByteArray)} {i : Nat} (h : ∀ x ∈ X, x.1 ≠ i) : lastOf X i = none :=
  lastOf_none X i fun _ p hj => h p (List.mem_of_getElem? hj)
theorem lay_last : ∀ (X : List (Nat × ByteArray)) (S : List ByteArray) (i : Nat), i < S.length → (lay S X)[i]? = some ((lastOf X i).getD ((S[i]?).getD ⟨#[]⟩))
  | [], S, i, h => by simp [lay, lastOf, h]
  | x :: r, S, i, h => by
    have ih := lay_last r (S.set x.1 x.2) i (by simpa using h)
    have e : lay S (x :: r) = lay (S.set x.1 x.2) r := rfl
    rw [e, ih, lastOf]
    congr 1
    cases hl : lastOf r i with
    | some s => rfl
    | none =>
      by_cases hx : x.1 = i
      · subst hx
        simp [h]
      · simp [hx, List.getElem?_set_ne]
theorem rd_lay {X : List (Nat × ByteArray)} {S : List ByteArray} {i : Nat} (h : i < S.length) : rd (lay S X) i = blk ((lastOf X i).getD ((S[i]?).getD ⟨#[]⟩)) := by
  rw [rd, lay_last X S i h]; rfl
theorem rd_lay_none {X : List (Nat × ByteArray)} {S : List ByteArray} {i : Nat} (h : i < S.length) (hn : lastOf X i = none) : rd (lay S X) i = rd S i := by
  rw [rd_lay h, hn]; rfl
theorem rd_lay_some {X : List (Nat × ByteArray)} {S : List ByteArray} {i : Nat} {s : ByteArray} (h : i < S.length) (hn : lastOf X i = some s) : rd (lay S X) i = blk s := by
  rw [rd_lay h, hn]; rfl
theorem kept_mem : ∀ (l : List (Nat × ByteArray)) (ks : List Int) (x : Nat × ByteArray), x ∈ kept l ks → x ∈ l
  | [], _, _, h => by simp [kept] at h
  | _ :: _, [], _, h => by simp [kept] at h
  | p :: r, k :: ks, x, h => by
    simp only [kept] at h
    split at h
    · rcases List.mem_cons.1 h with h | h
      · simp [h]
      · simp [kept_mem r ks x h]
    · simp [kept_mem r ks x h]

theorem lastOf_padT : ∀ (X : List (Nat × ByteArray)) (i : Nat), lastOf (padT X) i = (lastOf X i).map pad
  | [], _ => rfl
  | x :: r, i => by
    have ih := lastOf_padT r i
    simp only [padT] at ih ⊢
    simp only [List.map_cons, lastOf, ih]
    cases lastOf r i with
    | some s => rfl
    | none =>
      simp only [Option.map_none]
      split <;> rfl
theorem lastOf_home : ∀ (ps : List (Nat × ByteArray)) (i : Nat), lastOf (home ps) (90 + i) = lastOf ps i
  | [], _ => rfl
  | x :: r, i => by
    have ih := lastOf_home r i
    simp only [home] at ih ⊢
    simp only [List.map_cons, lastOf, ih]
    cases lastOf r i with
    | some s => rfl
    | none =>
      by_cases h : x.1 = i
      · simp [h]
      · simp [h]
theorem lastOf_mem : ∀ (X : List (Nat × ByteArray)) (i : Nat) (s : ByteArray), lastOf X i = some s → ∃ x ∈ X, x.2 = s
  | [], _, _, h => by simp [lastOf] at h
  | x :: r, i, s, h => by
    rw [lastOf] at h
    cases hr : lastOf r i with
    | some t =>
      rw [hr] at h
      obtain ⟨y, hy, e⟩ := lastOf_mem r i s (by rw [hr]; exact h)
      exact ⟨y, by simp [hy], e⟩
    | none =>
      rw [hr] at h
      by_cases hx : x.1 = i
      · simp [hx] at h; exact ⟨x, by simp, h⟩
      · simp [hx] at h
theorem room_low : ∀ (ps : List (Nat × ByteArray)) (i : Nat) (x : Nat × ByteArray), x ∈ room i ps → 1 + i ≤ x.1
  | [], _, _, h => by simp [room] at h
  | q :: r, i, x, h => by
    simp only [room, List.mem_cons] at h
    rcases h with rfl | h
    · exact Nat.le_refl _
    · have := room_low r (i + 1) x h; omega
theorem lastOf_room : ∀ (ps : List (Nat × ByteArray)) (i k : Nat) (p : Nat × ByteArray), ps[k]? = some p → lastOf (room i ps) (1 + (i + k)) = some p.2
  | [], _, _, _, h => by simp at h
  | q :: r, i, 0, p, h => by
    simp at h; subst h
    rw [room, lastOf, lastOf_none_of (X := room (i + 1) r)]
    · simp
    · intro x hx
      have := room_low r (i + 1) x hx
      omega
  | q :: r, i, k + 1, p, h => by
    have ih := lastOf_room r (i + 1) k p (by simpa using h)
    rw [room, lastOf, show 1 + (i + (k + 1)) = 1 + (i + 1 + k) by omega, ih]

theorem padT_mem {X : List (Nat × ByteArray)} {x : Nat × ByteArray} (h : x ∈ padT X) : ∃ y ∈ X, x = (y.1, pad y.2) := by
  simp only [padT, List.mem_map] at h
  obtain ⟨y, hy, e⟩ := h
  exact ⟨y, hy, e.symm⟩
theorem home_mem {ps : List (Nat × ByteArray)} {x : Nat × ByteArray} (h : x ∈ home ps) : ∃ p ∈ ps, x = (90 + p.1, p.2) := by
  simp only [home, List.mem_map] at h
  obtain ⟨y, hy, e⟩ := h
  exact ⟨y, hy, e.symm⟩

/-- The record tells its numbers. -/
theorem recOf_at : ∀ (ps : List (Nat × ByteArray)) (n i : Nat) (p : Nat × ByteArray), ps[i]? = some p → (recOf n ps)[1 + 2 * i]? = some (UInt8.ofNat (p.1 / 256)) ∧ (recOf n ps)[2 + 2 * i]? = some (UInt8.ofNat p.1)
  | [], _, _, _, h => by simp at h
  | q :: r, n, 0, p, h => by simp at h; subst h; simp [recOf]
  | q :: r, n, i + 1, p, h => by
    have ih := recOf_at r n i p (by simpa using h)
    have e1 : 1 + 2 * (i + 1) = (1 + 2 * i) + 1 + 1 := by omega
    have e2 : 2 + 2 * (i + 1) = (2 + 2 * i) + 1 + 1 := by omega
    have f1 : 1 + 2 * i = 2 * i + 1 := by omega
    have f2 : 2 + 2 * i = 2 * i + 1 + 1 := by omega
    rw [e1, e2]
    rw [f1, f2] at ih ⊢
    simpa [recOf] using ih
theorem tells_rec (ps : List (Nat × ByteArray)) (hl : ps.length ≤ 80) (hb : ∀ p ∈ ps, p.1 < 4096) : Tells (pad (recB ps)) ps := by
  have hp : (pad (recB ps)).data.toList = recOf ps.length ps ++ List.replicate (256 - (recB ps).size) 0 := pad_list (recB ps)
  have hlen := recOf_len ps.length ps
  have key : ∀ (i : Nat) (hh : i < (pad (recB ps)).size) (b : UInt8), (recOf ps.length ps)[i]? = some b → (pad (recB ps))[i] = b := by
    intro i hh b hb
    have h1 : (pad (recB ps)).data.toList[i]? = some b := by
      rw [hp, List.getElem?_append_left (List.getElem?_eq_some_iff.1 hb).1]
      exact hb
    have h2 : (pad (recB ps)).data[i]? = some b := by rw [← Array.getElem?_toList]; exact h1
    obtain ⟨_, h3⟩ := Array.getElem?_eq_some_iff.1 h2
    exact h3
  refine ⟨pad_size (recB_size ps hl), ?_, ?_, ?_⟩
  · intro hh
    rw [key 0 hh (UInt8.ofNat ps.length) (by simp [recOf])]
    simp; omega
  · intro i p hh hi
    rw [key _ hh _ (recOf_at ps _ i p hi).1]
    have := hb p (List.mem_of_getElem? hi)
    simp; omega
  · intro i p hh hi
    rw [key _ hh _ (recOf_at ps _ i p hi).2]
    simp
end Go.Proofs.Ytcbindgpbeaebaa
