import Derived.Test.YtcbindgpbeaebaaPureG
import Derived.Test.YtcbindgpbeaebaaRefD
namespace Go.Proofs.Ytcbindgpbeaebaa

/-- No two of one number. -/
def NodupK (l : List (Nat × ByteArray)) : Prop := (l.map (·.1)).Nodup
theorem lookR_mem : ∀ (l : List (Nat × ByteArray)) (a : Nat) (s : ByteArray), lookR l (a : Int) = some s → (a, s) ∈ l
  | [], _, _, h => by simp [lookR] at h
  | p :: r, a, s, h => by
    rw [lookR] at h
    by_cases e : (p.1 : Int) = (a : Int)
    · rw [if_pos e] at h
      have e' : p.1 = a := by omega
      cases p
      simp only at e' h
      subst e'
      cases h
      simp
    · rw [if_neg e] at h
      exact List.mem_cons_of_mem _ (lookR_mem r a s h)
theorem lookR_eq_none : ∀ (l : List (Nat × ByteArray)) (a : Nat), lookR l (a : Int) = none → ∀ p ∈ l, p.1 ≠ a
  | [], _, _, p, hp => by simp at hp
  | q :: r, a, h, p, hp => by
    rw [lookR] at h
    by_cases e : (q.1 : Int) = (a : Int)
    · rw [if_pos e] at h; cases h
    · rw [if_neg e] at h
      rcases List.mem_cons.1 hp with rfl | hp
      · omega
      · exact lookR_eq_none r a h p hp
theorem lookR_none_of {l : List (Nat × ByteArray)} {a : Nat} (h : ∀ p ∈ l, p.1 ≠ a) : lookR l (a : Int) = none :=
  lookR_none l a fun _ p hj => by have := h p (List.mem_of_getElem? hj); omega
theorem lastOf_lookR : ∀ (l : List (Nat × ByteArray)) (a : Nat), NodupK l → lastOf l a = lookR l (a : Int)
  | [], _, _ => rfl
  | p :: r, a, h => by
    have hn : p.1 ∉ r.map (·.1) ∧ NodupK r := by simpa [NodupK] using h
    have ih := lastOf_lookR r a hn.2
    rw [lastOf, lookR, ih]
    by_cases e : p.1 = a
    · have hr : lookR r (a : Int) = none := lookR_none_of fun q hq e' => hn.1 (by rw [e, ← e']; exact List.mem_map_of_mem hq)
      rw [hr, if_pos (by omega : (p.1 : Int) = (a : Int))]
      simp [e]
    · rw [if_neg (by omega : ¬ (p.1 : Int) = (a : Int))]
      cases lookR r (a : Int) with
      | some s => rfl
      | none => simp [e]
theorem idx_look (l : List (Nat × ByteArray)) (a : Nat) : (0 ≤ idx l (a : Int) ↔ lookR l (a : Int) ≠ none) := by
  induction l with
  | nil => simp [idx, lookR]
  | cons p r ih =>
    rw [idx, lookR]
    by_cases e : (p.1 : Int) = (a : Int)
    · simp [e]
    · rw [if_neg e, if_neg e]
      by_cases hn : idx r (a : Int) < 0
      · rw [if_pos hn]
        constructor
        · intro h; omega
        · intro h; exact absurd (ih.2 h) (by omega)
      · rw [if_neg hn]
        constructor
        · intro _; exact ih.1 (by omega)
        · intro _; omega
theorem lookR_with (l : List (Nat × ByteArray)) (a b : Nat) (s : ByteArray) : lookR (withR l a s) (b : Int) = if b = a then some s else lookR l (b : Int) := by
  have hf : ∀ m : List (Nat × ByteArray), b ≠ a → lookR (m.filter fun p => decide (p.1 ≠ a)) (b : Int) = lookR m (b : Int) := fun m hba => by
    induction m with
    | nil => rfl
    | cons p r ih =>
      by_cases e : p.1 = a
      · have : (p :: r).filter (fun p => decide (p.1 ≠ a)) = r.filter fun p => decide (p.1 ≠ a) := by simp [e]
        rw [this, ih, lookR, if_neg (by omega)]
      · have : (p :: r).filter (fun p => decide (p.1 ≠ a)) = p :: r.filter fun p => decide (p.1 ≠ a) := by simp [e]
        rw [this, lookR, lookR, ih]
  rw [withR, lookR]
  by_cases e : b = a
  · rw [if_pos e, if_pos (by simp only; omega)]
  · rw [if_neg e, if_neg (by simp only; omega)]
    exact hf l e
theorem with_nodup {l : List (Nat × ByteArray)} (a : Nat) (s : ByteArray) (h : NodupK l) : NodupK (withR l a s) := by
  unfold NodupK withR
  simp only [List.map_cons, List.nodup_cons]
  refine ⟨fun hm => ?_, ?_⟩
  · simp only [List.mem_map, List.mem_filter, decide_eq_true_eq] at hm
    obtain ⟨p, ⟨_, hp⟩, e⟩ := hm
    exact hp e
  · exact List.Nodup.sublist (List.Sublist.map _ List.filter_sublist) h
theorem with_len {l : List (Nat × ByteArray)} (a : Nat) (s : ByteArray) (h : NodupK l) : (withR l a s).length = if lookR l (a : Int) = none then l.length + 1 else l.length := by
  induction l with
  | nil => simp [withR, lookR]
  | cons p r ih =>
    have hn : p.1 ∉ r.map (·.1) ∧ NodupK r := by simpa [NodupK] using h
    have ih := ih hn.2
    rw [lookR]
    by_cases e : p.1 = a
    · have hr : lookR r (a : Int) = none := lookR_none_of fun q hq e' => hn.1 (by rw [e, ← e']; exact List.mem_map_of_mem hq)
      rw [if_pos (by omega : (p.1 : Int) = (a : Int))]
      rw [hr, if_pos rfl] at ih
      have e2 : withR (p :: r) a s = withR r a s := by simp [withR, e]
      rw [e2, ih]
      simp
    · rw [if_neg (by omega : ¬ (p.1 : Int) = (a : Int))]
      have e2 : (withR (p :: r) a s).length = (withR r a s).length + 1 := by simp [withR, e]
      rw [e2, ih]
      split <;> simp

/-- The log's puts and the document's: the same by number. -/
structure RelP (ps l : List (Nat × ByteArray)) : Prop where
  n1 : NodupK ps
  n2 : NodupK l
  len : ps.length = l.length
  look : ∀ a : Nat, lookR ps (a : Int) = lookR l (a : Int)
theorem RelP.nil : RelP [] [] := ⟨by simp [NodupK], by simp [NodupK], rfl, fun _ => rfl⟩
theorem lookR_set : ∀ (l : List (Nat × ByteArray)) (i a : Nat) (p : Nat × ByteArray) (s : ByteArray) (b : Nat), NodupK l → l[i]? = some p → p.1 = a → lookR (l.set i (a, s)) (b : Int) = if b = a then some s else lookR l (b : Int)
  | [], _, _, _, _, _, _, h, _ => by simp at h
  | q :: r, 0, a, p, s, b, _, h, e => by
    simp at h; subst h
    simp only [List.set_cons_zero, lookR]
    by_cases hb : b = a
    · rw [if_pos hb, if_pos (by omega)]
    · rw [if_neg hb, if_neg (by omega), if_neg (by omega)]
  | q :: r, i + 1, a, p, s, b, hn, h, e => by
    have hn' : q.1 ∉ r.map (·.1) ∧ NodupK r := by simpa [NodupK] using hn
    have ih := lookR_set r i a p s b hn'.2 (by simpa using h) e
    have hqa : q.1 ≠ a := fun e' => hn'.1 (by rw [e', ← e]; exact List.mem_map_of_mem (List.mem_of_getElem? (by simpa using h)))
    simp only [List.set_cons_succ, lookR, ih]
    by_cases hb : b = a
    · subst hb
      rw [if_neg (by omega : ¬ (q.1 : Int) = (b : Int)), if_pos rfl, if_pos rfl]
    · rw [if_neg hb, if_neg hb]
theorem lookR_snoc : ∀ (l : List (Nat × ByteArray)) (a b : Nat) (s : ByteArray), lookR l (a : Int) = none → lookR (l ++ [(a, s)]) (b : Int) = if b = a then some s else lookR l (b : Int)
  | [], a, b, s, _ => by
    simp only [List.nil_append, lookR]
    by_cases hb : b = a
    · rw [if_pos hb, if_pos (by omega)]
    · rw [if_neg hb, if_neg (by omega)]
  | q :: r, a, b, s, h => by
    rw [lookR] at h
    by_cases e : (q.1 : Int) = (a : Int)
    · rw [if_pos e] at h; cases h
    · rw [if_neg e] at h
      have ih := lookR_snoc r a b s h
      simp only [List.cons_append, lookR, ih]
      by_cases hb : b = a
      · subst hb
        rw [if_neg e, if_pos rfl, if_pos rfl]
      · rw [if_neg hb, if_neg hb]

/-- Put, in both. -/
theorem put_rel (N : Nat) (R : Rf) (ps : List (Nat × ByteArray)) (a : Int) (s : ByteArray) (hm : R.many = (N : Int) - 90) (h : RelP ps R.put) (h80 : ps.length ≤ 80) :
    (putL N ps a s).1 = (putR R a s).2 ∧ RelP (putL N ps a s).2 (putR R a s).1.put ∧ (putL N ps a s).2.length ≤ 80 ∧ (putR R a s).1.sure = R.sure ∧ (putR R a s).1.many = R.many := by
  have hh : hasB N a = isR R.many a := by unfold hasB isR; rw [hm]
  unfold putL putR
  rw [hh]
  by_cases hbad : isR R.many a = false ∨ 256 < s.size
  · rw [if_pos hbad, if_pos hbad]
    exact ⟨rfl, h, h80, rfl, rfl⟩
  · rw [if_neg hbad, if_neg hbad]
    have ha : 0 ≤ a := by
      cases hi : isR R.many a
      · exact absurd (.inl hi) hbad
      · simp [isR] at hi; omega
    obtain ⟨k, rfl⟩ := Int.eq_ofNat_of_zero_le ha
    rw [Int.toNat_natCast]
    have hil := idx_look ps k
    have hpad : pad s = s ++ zs (256 - s.size) := rfl
    have hlk := h.look k
    by_cases hi : 0 ≤ idx ps (k : Int)
    · have hne : lookR R.put (k : Int) ≠ none := by rw [← hlk]; exact hil.1 hi
      rw [if_pos hi, if_neg (fun e => hne e.1)]
      obtain ⟨p, hpi, hpe⟩ := idx_at ps k hi
      have hpk : p.1 = k := by omega
      refine ⟨rfl, ⟨?_, with_nodup _ _ h.n2, ?_, fun b => ?_⟩, by simpa using h80, rfl, rfl⟩
      · have : (ps.set (idx ps (k : Int)).toNat (k, pad s)).map (·.1) = ps.map (·.1) := by
          rw [List.map_set]
          apply List.ext_getElem?
          intro j
          rw [List.getElem?_set]
          split
          · rename_i e
            subst e
            have := hpi
            simp [this, hpk]
            exact (List.getElem?_eq_some_iff.1 hpi).1
          · rfl
        unfold NodupK
        rw [this]; exact h.n1
      · simp only
        rw [List.length_set, with_len _ _ h.n2, if_neg hne]; exact h.len
      · simp only
        rw [lookR_set ps _ k p (pad s) b h.n1 hpi hpk, lookR_with, h.look b, hpad]
    · have hno : lookR ps (k : Int) = none := by
        cases hq : lookR ps (k : Int) with
        | none => rfl
        | some t => exact absurd (hil.2 (by rw [hq]; simp)) hi
      have hno2 : lookR R.put (k : Int) = none := by rw [← hlk]; exact hno
      rw [if_neg hi]
      by_cases hfull : ps.length = 80
      · rw [if_pos hfull, if_pos ⟨hno2, by have := h.len; omega⟩]
        exact ⟨rfl, h, h80, rfl, rfl⟩
      · rw [if_neg hfull, if_neg (fun e => by have := h.len; omega)]
        refine ⟨rfl, ⟨?_, with_nodup _ _ h.n2, ?_, fun b => ?_⟩, by simp; omega, rfl, rfl⟩
        · unfold NodupK
          rw [List.map_append, List.nodup_append]
          refine ⟨h.n1, by simp, ?_⟩
          intro x hx y hy
          simp at hy
          subst hy
          intro e
          subst e
          simp only [List.mem_map] at hx
          obtain ⟨q, hq, e⟩ := hx
          exact lookR_eq_none ps _ hno q hq e
        · simp only
          rw [List.length_append, with_len _ _ h.n2, if_pos hno2, h.len]; rfl
        · simp only
          rw [lookR_snoc ps k b _ hno, lookR_with, h.look b, hpad]

/-- What is sure when all is done. -/
theorem lookR_done : ∀ (l s : List (Nat × ByteArray)) (b : Nat), lookR (doneS s l) (b : Int) = match lastOf l b with
    | some t => some t
    | none => lookR s (b : Int)
  | [], s, b => rfl
  | p :: r, s, b => by
    have e : doneS s (p :: r) = doneS (withR s p.1 p.2) r := rfl
    rw [e, lookR_done r _ b, lastOf]
    cases lastOf r b with
    | some t => rfl
    | none =>
      simp only
      rw [lookR_with]
      by_cases hb : p.1 = b
      · simp [hb]
      · rw [if_neg (fun e => hb e.symm), if_neg hb]
theorem sure_done (R : Rf) (ps : List (Nat × ByteArray)) (h : RelP ps R.put) (i : Nat) : sureR (doneR R) (i : Int) = (lastOf ps i).getD (sureR R (i : Int)) := by
  rw [lastOf_lookR ps i h.n1, h.look i, ← lastOf_lookR R.put i h.n2]
  unfold sureR doneR
  simp only
  rw [lookR_done]
  cases lastOf R.put i with
  | some t => rfl
  | none => rfl
end Go.Proofs.Ytcbindgpbeaebaa
