import Derived.Test.YtcbindgpbeaebaaPureJ
namespace Go.Proofs.Ytcbindgpbeaebaa
open Go.RowKit Go.Deep

theorem idx_got : ∀ (l : List (Nat × ByteArray)) (a : Int), 0 ≤ idx l a → lookR l a = some ((l[(idx l a).toNat]?).getD (0, ⟨#[]⟩)).2
  | [], a, h => by simp [idx] at h
  | q :: r, a, h => by
    by_cases e : (q.1 : Int) = a
    · simp [idx, lookR, e]
    · by_cases hn : idx r a < 0
      · simp [idx, e, hn] at h
      · rw [lookR, if_neg e, idx_got r a (by omega), idx, if_neg e, if_neg hn, show (idx r a + 1).toNat = (idx r a).toNat + 1 by omega]
        simp
/-- Get, in both. -/
theorem get_rel (d : Dk) (R : Rf) (ps : List (Nat × ByteArray)) (a : Int) (N : Nat) (hN : d.safe.length = N) (hm : R.many = (N : Int) - 90) (h : RelP ps R.put) (hl : d.late = []) (hc : ∀ i : Nat, 90 + i < N → rd d.safe (90 + i) = sureR R (i : Int)) (hi : isR R.many a = true) (hd : d.life ≠ 0) :
    getL d ps false a = (getR R a, 0) := by
  have ha : 0 ≤ a ∧ a < R.many := by simpa [isR] using hi
  obtain ⟨k, rfl⟩ := Int.eq_ofNat_of_zero_le ha.1
  have hh : hasB d.safe.length (k : Int) = true := by
    unfold hasB
    rw [hN, ← hm]
    simpa [isR] using hi
  unfold getL getR
  rw [hh, if_neg (by simp), if_neg (by simp [hd])]
  by_cases hx : 0 ≤ idx ps (k : Int)
  · rw [if_pos hx, ← h.look k, idx_got ps _ hx]
    rfl
  · have hn : lookR ps (k : Int) = none := by
      cases hq : lookR ps (k : Int) with
      | none => rfl
      | some s => exact absurd ((idx_look ps k).2 (by rw [hq]; simp)) hx
    rw [if_neg hx, ← h.look k, hn, Int.toNat_natCast, read_rd hl, hc k (by omega)]
    rfl
theorem get_not (d : Dk) (ps : List (Nat × ByteArray)) (br : Bool) (a m : Int) (hm : m = (d.safe.length : Int) - 90) (hi : isR m a = false) : getL d ps br a = (⟨#[]⟩, 1) := by
  have hh : hasB d.safe.length a = false := by
    unfold hasB
    rw [← hm]
    exact hi
  unfold getL
  rw [if_pos hh]
theorem get_off (d : Dk) (ps : List (Nat × ByteArray)) (br : Bool) (a m : Int) (hm : m = (d.safe.length : Int) - 90) (hi : isR m a = true) (h : d.life = 0 ∨ br = true) : getL d ps br a = (⟨#[]⟩, 9) := by
  have hh : hasB d.safe.length a = true := by
    unfold hasB
    rw [← hm]
    exact hi
  unfold getL
  rw [hh, if_neg (by simp), if_pos h]
/-- What a Put puts. -/
theorem put_good (N : Nat) (ps : List (Nat × ByteArray)) (a : Int) (s : ByteArray) (h : ∀ p ∈ ps, 90 + p.1 < N ∧ p.2.size = 256) : ∀ p ∈ (putL N ps a s).2, 90 + p.1 < N ∧ p.2.size = 256 := by
  unfold putL
  by_cases hb : hasB N a = false ∨ 256 < s.size
  · rw [if_pos hb]; exact h
  · rw [if_neg hb]
    have hh : hasB N a = true := by
      cases e : hasB N a with
      | true => rfl
      | false => exact absurd (.inl e) hb
    have ha : 0 ≤ a ∧ a < (N : Int) - 90 := by simpa [hasB] using hh
    have hz : (pad s).size = 256 := pad_size (by
      rcases Nat.lt_or_ge 256 s.size with hlt | hge
      · exact absurd (.inr hlt) hb
      · exact hge)
    have hg : 90 + a.toNat < N ∧ (pad s).size = 256 := ⟨by omega, hz⟩
    by_cases hx : 0 ≤ idx ps a
    · rw [if_pos hx]
      intro p hp
      rcases List.mem_or_eq_of_mem_set hp with hp | rfl
      · exact h p hp
      · exact hg
    · rw [if_neg hx]
      by_cases hl : ps.length = 80
      · rw [if_pos hl]; exact h
      · rw [if_neg hl]
        intro p hp
        rcases List.mem_append.1 hp with hp | hp
        · exact h p hp
        · simp at hp
          subst hp
          exact hg
end Go.Proofs.Ytcbindgpbeaebaa
