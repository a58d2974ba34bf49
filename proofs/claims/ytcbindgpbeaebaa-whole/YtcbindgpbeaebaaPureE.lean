import Derived.Test.YtcbindgpbeaebaaPureD
namespace Go.Proofs.Ytcbindgpbeaebaa

/-- The puts of the law: so many blocks from the first on, round a hundred. -/
def psOf (first n : Nat) (s : ByteArray) : List (Nat × ByteArray) := (List.range n).map fun k => ((first + k) % 100, pad s)
theorem psOf_len (first n : Nat) (s : ByteArray) : (psOf first n s).length = n := by simp [psOf]
theorem psOf_succ (first n : Nat) (s : ByteArray) : psOf first (n + 1) s = psOf first n s ++ [((first + n) % 100, pad s)] := by simp [psOf, List.range_succ]
theorem psOf_mem {first n : Nat} {s : ByteArray} {p : Nat × ByteArray} (h : p ∈ psOf first n s) : ∃ k, k < n ∧ p = ((first + k) % 100, pad s) := by
  simp only [psOf, List.mem_map, List.mem_range] at h
  obtain ⟨k, hk, e⟩ := h
  exact ⟨k, hk, e.symm⟩
theorem psOf_idx (first n : Nat) (s : ByteArray) (hn : n < 80) : idx (psOf first n s) (((first + n) % 100 : Nat) : Int) = -1 := by
  apply idx_none
  intro j p hj
  obtain ⟨k, hk, rfl⟩ := psOf_mem (List.mem_of_getElem? hj)
  simp only
  omega
/-- The puts of the law, one by one. -/
theorem putL_psOf (first n : Nat) (s : ByteArray) (hn : n < 80) (hs : s.size ≤ 256) : putL 190 (psOf first n s) (((first + n) % 100 : Nat) : Int) s = (0, psOf first (n + 1) s) := by
  have h1 : hasB 190 (((first + n) % 100 : Nat) : Int) = true := by simp [hasB]; omega
  have h2 := psOf_idx first n s hn
  have h3 := psOf_len first n s
  rw [putL, if_neg (by rw [h1]; simp; omega), if_neg (by omega), if_neg (by omega), psOf_succ]
  simp
  omega
theorem lastOf_psOf (first n i : Nat) (s : ByteArray) (hn : n ≤ 100) (hf : first < 100) (hi : i < 100) : lastOf (psOf first n s) i = if (i + 100 - first) % 100 < n then some (pad s) else none := by
  by_cases h : (i + 100 - first) % 100 < n
  · rw [if_pos h]
    have hk : (psOf first n s)[(i + 100 - first) % 100]? = some ((first + (i + 100 - first) % 100) % 100, pad s) := by simp [psOf, h]
    refine lastOf_hit _ i _ _ hk (by simp only; omega) fun j q hj hq => ?_
    obtain ⟨hj2, e⟩ := List.getElem?_eq_some_iff.1 hq
    rw [psOf_len] at hj2
    have : (psOf first n s)[j]? = some ((first + j) % 100, pad s) := by simp [psOf, hj2]
    rw [hq] at this
    cases this
    simp only
    omega
  · rw [if_neg h]
    apply lastOf_none_of
    intro x hx
    obtain ⟨k, hk, rfl⟩ := psOf_mem hx
    simp only
    omega

theorem newDk_ok (n : Nat) (hn : n ≤ 4096) : (newDk n).Ok := ⟨by simp [newDk], by simp [newDk], by simp [newDk], by simp [newDk], by simp [newDk], by simp [newDk], by simp [newDk]; exact hn, by simp [newDk]⟩
theorem newDk_well (n : Nat) : (newDk n).Well := ⟨rfl, rfl⟩
theorem clr_zero : pad (recB []) = zs 256 := by
  apply ByteArray.ext
  apply Array.ext'
  rw [pad_list]
  rfl
theorem rd_new (n i : Nat) : rd (newDk n).safe i = zs 256 := by
  have : ((newDk n).safe[i]?).getD ⟨#[]⟩ = (⟨#[]⟩ : ByteArray) := by
    simp only [newDk, List.getElem?_replicate]
    split <;> rfl
  rw [rd, this]; rfl
/-- Open, on a disk that is new. -/
theorem new_opens (n : Nat) : (newDk n).redo [] = (true, newDk n) ∧ Tells ((newDk n).flush.2.read 0) [] := by
  have hf := Dk.flush_none (newDk_well n) rfl
  refine ⟨?_, ?_⟩
  · simp [Dk.redo, hf, (newDk_well n).2]
  · rw [hf]; simp only; rw [read_rd rfl, rd_new, ← clr_zero]
    exact tells_rec [] (by simp) (by simp)

end Go.Proofs.Ytcbindgpbeaebaa
