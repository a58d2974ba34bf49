import Derived.Test.YtcbindgpbeaebaaDoorSlotC
namespace Go.Proofs.YtcbindgpbeaebaaDoor
open Go.RowKit Go.Deep

theorem idx_neg : ∀ (l : List (Nat × ByteArray)) (a : Int), idx l a < 0 → ∀ p ∈ l, (p.1 : Int) ≠ a
  | [], _, _, p, hp => by simp at hp
  | q :: r, a, h, p, hp => by
    unfold idx at h
    split at h
    · omega
    · next hq =>
      split at h
      · next hr =>
        rcases List.mem_cons.1 hp with rfl | hp
        · exact hq
        · exact idx_neg r a hr p hp
      · omega
def keys (ps : List (Nat × ByteArray)) : List Nat := ps.map (·.1)
theorem keys_putP (ps : List (Nat × ByteArray)) (a : Nat) (s : ByteArray) : keys (putP ps a s) = if a ∈ keys ps then keys ps else keys ps ++ [a] := by
  unfold putP keys
  by_cases h : 0 ≤ idx ps (a : Int)
  · obtain ⟨p, hp, he⟩ := idx_at ps a h
    have hpa : p.1 = a := by omega
    have hmem : a ∈ ps.map (·.1) := by
      rw [List.mem_map]
      exact ⟨p, List.mem_of_getElem? hp, hpa⟩
    rw [if_pos h, if_pos hmem, List.map_set]
    apply List.ext_getElem?
    intro j
    rw [List.getElem?_set]
    split
    · next e =>
      subst e
      rw [List.getElem?_map, hp]
      have hl := (List.getElem?_eq_some_iff.1 hp).1
      simp [hl, hpa]
    · rfl
  · have hn : ¬ a ∈ ps.map (·.1) := by
      rw [List.mem_map]
      rintro ⟨p, hp, e⟩
      exact idx_neg ps a (by omega) p hp (by omega)
    rw [if_neg h, if_neg hn]
    simp
/-- What was put, so far: no block twice, all within the slots, of the second blocks no more than c. -/
structure PsB (c : Nat) (ps : List (Nat × ByteArray)) : Prop where
  nd : (keys ps).Nodup
  lt : ∀ k ∈ keys ps, k < 120
  odd : ((keys ps).filter fun k => k % 2 == 1).length ≤ c
  sz : ∀ p ∈ ps, p.2.size = 256
theorem putP_mem {ps : List (Nat × ByteArray)} {a : Nat} {s : ByteArray} {p : Nat × ByteArray} (h : p ∈ putP ps a s) : p ∈ ps ∨ p = (a, pad s) := by
  unfold putP at h
  split at h
  · exact List.mem_or_eq_of_mem_set h
  · simpa using h
theorem putP_sz {ps : List (Nat × ByteArray)} {a : Nat} {s : ByteArray} (h : ∀ p ∈ ps, p.2.size = 256) (hs : s.size ≤ 256) : ∀ p ∈ putP ps a s, p.2.size = 256 := fun p hp => by
  rcases putP_mem hp with hp | rfl
  · exact h p hp
  · exact pad_size hs
theorem nodup_lt : ∀ (n : Nat) (L : List Nat), L.Nodup → (∀ x ∈ L, x < n) → L.length ≤ n
  | 0, L, _, h => by
    cases L with
    | nil => simp
    | cons a r => have := h a (by simp); omega
  | n + 1, L, hd, h => by
    by_cases hn : n ∈ L
    · have ih := nodup_lt n (L.erase n) (hd.erase n) fun x hx => by
        have h1 := h x (List.mem_of_mem_erase hx)
        have h2 : x ≠ n := fun e => by subst e; exact (List.Nodup.not_mem_erase hd) hx
        omega
      rw [List.length_erase_of_mem hn] at ih
      omega
    · have := nodup_lt n L hd fun x hx => by
        have h1 := h x hx
        have h2 : x ≠ n := fun e => hn (e ▸ hx)
        omega
      omega
theorem PsB.len {c : Nat} {ps : List (Nat × ByteArray)} (h : PsB c ps) : ps.length ≤ 60 + c := by
  have e1 : ps.length = (keys ps).length := by simp [keys]
  have e2 : (keys ps).length = ((keys ps).filter fun k => k % 2 == 1).length + ((keys ps).filter fun k => !(k % 2 == 1)).length := by
    induction keys ps with
    | nil => rfl
    | cons a r ih => by_cases ha : a % 2 == 1 <;> simp_all <;> omega
  have e3 : (((keys ps).filter fun k => !(k % 2 == 1)).map (· / 2)).length ≤ 60 := by
    apply nodup_lt
    · rw [List.nodup_iff_pairwise_ne, List.pairwise_map]
      have := (h.nd.filter fun k => !(k % 2 == 1))
      refine List.Pairwise.imp_of_mem ?_ this
      intro a b ha hb hne e
      simp at ha hb
      omega
    · intro x hx
      rw [List.mem_map] at hx
      obtain ⟨y, hy, rfl⟩ := hx
      have := h.lt y (List.mem_filter.1 hy).1
      omega
  rw [List.length_map] at e3
  have := h.odd
  omega
theorem PsB.even {c : Nat} {ps : List (Nat × ByteArray)} (h : PsB c ps) (s : Nat) (hs : s < 60) (x : ByteArray) (hx : x.size ≤ 256) : PsB c (putP ps (2 * s) x) := by
  have hsz := putP_sz (a := 2 * s) h.sz hx
  have hk := keys_putP ps (2 * s) x
  by_cases hm : 2 * s ∈ keys ps
  · rw [if_pos hm] at hk
    exact ⟨by rw [hk]; exact h.nd, by rw [hk]; exact h.lt, by rw [hk]; exact h.odd, hsz⟩
  · rw [if_neg hm] at hk
    refine ⟨by rw [hk]; exact List.nodup_append.2 ⟨h.nd, by simp, fun a ha b hb e => by simp at hb; subst hb; subst e; exact hm ha⟩, fun k hk' => ?_, ?_, hsz⟩
    · rw [hk, List.mem_append] at hk'
      rcases hk' with h1 | h1
      · exact h.lt k h1
      · simp at h1; omega
    · rw [hk, List.filter_append]
      have : ([2 * s].filter fun k => k % 2 == 1) = [] := by simp
      rw [this]
      simpa using h.odd
theorem PsB.odd1 {c : Nat} {ps : List (Nat × ByteArray)} (h : PsB c ps) (s : Nat) (hs : s < 60) (x : ByteArray) (hx : x.size ≤ 256) : PsB (c + 1) (putP ps (2 * s + 1) x) := by
  have hsz := putP_sz (a := 2 * s + 1) h.sz hx
  have hk := keys_putP ps (2 * s + 1) x
  have ho := h.odd
  by_cases hm : 2 * s + 1 ∈ keys ps
  · rw [if_pos hm] at hk
    exact ⟨by rw [hk]; exact h.nd, by rw [hk]; exact h.lt, by rw [hk]; omega, hsz⟩
  · rw [if_neg hm] at hk
    refine ⟨by rw [hk]; exact List.nodup_append.2 ⟨h.nd, by simp, fun a ha b hb e => by simp at hb; subst hb; subst e; exact hm ha⟩, fun k hk' => ?_, ?_, hsz⟩
    · rw [hk, List.mem_append] at hk'
      rcases hk' with h1 | h1
      · exact h.lt k h1
      · simp at h1; omega
    · rw [hk, List.filter_append]
      simp
      omega
theorem PsB.nil (c : Nat) : PsB c [] := ⟨by simp [keys], by simp [keys], by simp [keys], by simp⟩
theorem PsB.put2 {c : Nat} {ps : List (Nat × ByteArray)} (h : PsB c ps) (s : Nat) (hs : s < 60) (t : ByteArray) (ht : t.size ≤ 512) : PsB (c + 1) (put2 ps s t) :=
  (h.even s hs _ (by rw [ByteArray.size_extract]; omega)).odd1 s hs _ (by rw [ByteArray.size_extract]; omega)

/-- What stands of a block behind a put. -/
theorem lastOf_app : ∀ (l : List (Nat × ByteArray)) (x : Nat × ByteArray) (i : Nat), lastOf (l ++ [x]) i = if x.1 = i then some x.2 else lastOf l i
  | [], x, i => by simp [lastOf]
  | y :: r, x, i => by
    have ih := lastOf_app r x i
    simp only [List.cons_append, lastOf, ih]
    by_cases h : x.1 = i
    · simp [h]
    · simp [h]
theorem lastOf_nodup : ∀ (l : List (Nat × ByteArray)) (j : Nat) (p : Nat × ByteArray), (keys l).Nodup → l[j]? = some p → lastOf l p.1 = some p.2
  | [], _, _, _, h => by simp at h
  | y :: r, 0, p, hd, h => by
    simp at h; subst h
    have hn : lastOf r y.1 = none := by
      refine lastOf_none_of fun x hx e => ?_
      simp only [keys, List.map_cons, List.nodup_cons] at hd
      exact hd.1 (List.mem_map.2 ⟨x, hx, e⟩)
    simp [lastOf, hn]
  | y :: r, j + 1, p, hd, h => by
    have := lastOf_nodup r j p (by simp only [keys, List.map_cons, List.nodup_cons] at hd; exact hd.2) (by simpa using h)
    simp [lastOf, this]
theorem lastOf_set_ne : ∀ (l : List (Nat × ByteArray)) (j : Nat) (x : Nat × ByteArray) (i : Nat), x.1 ≠ i → (∀ p, l[j]? = some p → p.1 ≠ i) → lastOf (l.set j x) i = lastOf l i
  | [], _, _, _, _, _ => by simp
  | y :: r, 0, x, i, h, hp => by
    have := hp y rfl
    simp [lastOf, h, this]
  | y :: r, j + 1, x, i, h, hp => by
    have ih := lastOf_set_ne r j x i h fun p hp' => hp p (by simpa using hp')
    simp [lastOf, ih]
theorem lastOf_putP (ps : List (Nat × ByteArray)) (a : Nat) (s : ByteArray) (hd : (keys ps).Nodup) (i : Nat) : lastOf (putP ps a s) i = if a = i then some (pad s) else lastOf ps i := by
  have hk := keys_putP ps a s
  unfold putP at hk ⊢
  by_cases h : 0 ≤ idx ps (a : Int)
  · obtain ⟨p, hp, he⟩ := idx_at ps a h
    have hpa : p.1 = a := by omega
    have hl := (List.getElem?_eq_some_iff.1 hp).1
    have hmem : a ∈ keys ps := List.mem_map.2 ⟨p, List.mem_of_getElem? hp, hpa⟩
    rw [if_pos h] at hk ⊢
    rw [if_pos hmem] at hk
    by_cases e : a = i
    · rw [if_pos e]
      subst e
      exact lastOf_nodup _ (idx ps (a : Int)).toNat (a, pad s) (by rw [hk]; exact hd) (by rw [List.getElem?_set]; simp [hl])
    · rw [if_neg e]
      exact lastOf_set_ne ps _ _ i e fun q hq => by rw [hp] at hq; cases hq; omega
  · rw [if_neg h]
    exact lastOf_app ps (a, pad s) i
end Go.Proofs.YtcbindgpbeaebaaDoor
