import Derived.Test.YtcbindgpbeaebaaWalkY
import Derived.Test.YtcbindgpbeaebaaPureL
namespace Go.Proofs.Ytcbindgpbeaebaa

/-- Numbers that are all others and lie below a bound are no more than it. -/
theorem nodup_le : ∀ (N : Nat) (l : List Nat), l.Nodup → (∀ x ∈ l, x < N) → l.length ≤ N
  | 0, [], _, _ => Nat.le_refl _
  | 0, x :: r, _, h => absurd (h x (by simp)) (by omega)
  | N + 1, l, hn, h => by
    by_cases hm : N ∈ l
    · have h1 : (l.erase N).Nodup := hn.erase N
      have h2 : ∀ x ∈ l.erase N, x < N := fun x hx => by
        have hx' := (hn.mem_erase_iff).1 hx
        have := h x hx'.2
        have := hx'.1
        omega
      have h3 := nodup_le N (l.erase N) h1 h2
      have h4 := List.length_erase_of_mem hm
      have h5 : 0 < l.length := List.length_pos_of_mem hm
      omega
    · have := nodup_le N l hn fun x hx => by
        have := h x hx
        have : x ≠ N := fun e => hm (e ▸ hx)
        omega
      omega

/-- A reference of a log of so many blocks. -/
structure Good (N : Nat) (R : Rf) : Prop where
  many : R.many = (N : Int) - 90
  ns : NodupK R.sure
  bs : ∀ p ∈ R.sure, 90 + p.1 < N
  bp : ∀ p ∈ R.put, 90 + p.1 < N
  lp : R.put.length ≤ 80
theorem Good.len {N : Nat} {R : Rf} (h : Good N R) : R.sure.length ≤ N := by
  have := nodup_le N (R.sure.map fun p : Nat × ByteArray => p.1) h.ns fun x hx => by
    obtain ⟨p, hp, rfl⟩ := List.mem_map.1 hx
    have := h.bs p hp
    omega
  simpa using this
theorem Good.drop {N : Nat} {R : Rf} (h : Good N R) : Good N { R with put := [] } := ⟨h.many, h.ns, h.bs, fun _ hp => by simp at hp, by simp⟩
theorem withR_mem {l : List (Nat × ByteArray)} {a : Nat} {s : ByteArray} {p : Nat × ByteArray} (h : p ∈ withR l a s) : p = (a, s) ∨ p ∈ l := by
  unfold withR at h
  rcases List.mem_cons.1 h with h | h
  · exact .inl h
  · exact .inr (List.mem_filter.1 h).1
theorem doneS_good {N : Nat} : ∀ (l s : List (Nat × ByteArray)), NodupK s → (∀ p ∈ s, 90 + p.1 < N) → (∀ p ∈ l, 90 + p.1 < N) → NodupK (doneS s l) ∧ ∀ p ∈ doneS s l, 90 + p.1 < N
  | [], s, h1, h2, _ => ⟨h1, h2⟩
  | q :: r, s, h1, h2, h3 => by
    have e : doneS s (q :: r) = doneS (withR s q.1 q.2) r := rfl
    rw [e]
    refine doneS_good r _ (with_nodup _ _ h1) (fun p hp => ?_) fun p hp => h3 p (by simp [hp])
    rcases withR_mem hp with rfl | hp
    · exact h3 q (by simp)
    · exact h2 p hp
theorem Good.done {N : Nat} {R : Rf} (h : Good N R) : Good N (doneR R) := by
  obtain ⟨a, b⟩ := doneS_good R.put R.sure h.ns h.bs h.bp
  exact ⟨h.many, a, b, fun _ hp => by simp [doneR] at hp, by simp [doneR]⟩
theorem Good.put {N : Nat} {R : Rf} (h : Good N R) (hr : NodupK R.put) (a : Int) (s : ByteArray) : Good N (putR R a s).1 := by
  unfold putR
  by_cases h1 : isR R.many a = false ∨ 256 < s.size
  · rw [if_pos h1]; exact h
  · rw [if_neg h1]
    by_cases h2 : lookR R.put a = none ∧ 80 ≤ R.put.length
    · rw [if_pos h2]; exact h
    · rw [if_neg h2]
      have ha : 0 ≤ a ∧ a < R.many := by
        have h1' : ¬ isR R.many a = false := fun e => h1 (.inl e)
        simpa [isR] using h1'
      have hm := h.many
      refine ⟨h.many, h.ns, h.bs, fun p hp => ?_, ?_⟩
      · rcases withR_mem hp with rfl | hp
        · simp only; omega
        · exact h.bp p hp
      · show (withR R.put a.toNat (s ++ zs (256 - s.size))).length ≤ 80
        rw [with_len _ _ hr]
        have ea : ((a.toNat : Nat) : Int) = a := by omega
        rw [ea]
        have := h.lp
        split
        · rename_i hl
          have : ¬ 80 ≤ R.put.length := fun e => h2 ⟨hl, e⟩
          omega
        · omega

end Go.Proofs.Ytcbindgpbeaebaa
