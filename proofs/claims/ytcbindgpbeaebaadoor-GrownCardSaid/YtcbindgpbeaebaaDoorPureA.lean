import Derived.Test.YtcbindgpbeaebaaDoorWalkI
namespace Go.Proofs.YtcbindgpbeaebaaDoor

/-- Writes in turn, till one fails. -/
def Dk.writes (d : Dk) : List (Nat × ByteArray) → Bool × Dk
  | [] => (true, d)
  | x :: r => if (d.write x.1 x.2).1 then (d.write x.1 x.2).2.writes r else (false, (d.write x.1 x.2).2)
theorem Dk.writes_app : ∀ (l m : List (Nat × ByteArray)) (d : Dk), d.writes (l ++ m) = if (d.writes l).1 then (d.writes l).2.writes m else d.writes l
  | [], m, d => by simp [Dk.writes]
  | x :: r, m, d => by
    simp only [List.cons_append, Dk.writes]
    by_cases h : (d.write x.1 x.2).1 = true
    · simp only [h, if_true]; exact Dk.writes_app r m _
    · simp [h]
theorem Dk.writes_snoc {l : List (Nat × ByteArray)} {d : Dk} (x : Nat × ByteArray) (h : (d.writes l).1 = true) : d.writes (l ++ [x]) = (d.writes l).2.write x.1 x.2 := by
  rw [Dk.writes_app, if_pos h]
  simp only [Dk.writes]
  cases h : ((d.writes l).2.write x.1 x.2).1
  · simp [Prod.ext_iff, h]
  · simp [Prod.ext_iff, h]
theorem Dk.writes_stop {l m : List (Nat × ByteArray)} {d : Dk} (h : (d.writes l).1 = false) : d.writes (l ++ m) = d.writes l := by
  rw [Dk.writes_app, if_neg (by simp [h])]
/-- The first k have been written, and the next one. -/
theorem Dk.writes_next {T : List (Nat × ByteArray)} {d : Dk} {k : Nat} {x : Nat × ByteArray} (hx : T[k]? = some x) (h : (d.writes (T.take k)).1 = true) : d.writes (T.take (k + 1)) = (d.writes (T.take k)).2.write x.1 x.2 := by
  rw [List.take_add_one, hx]
  exact Dk.writes_snoc x h
theorem Dk.writes_fail {T : List (Nat × ByteArray)} {d : Dk} {k : Nat} {x : Nat × ByteArray} (hx : T[k]? = some x) (h : (d.writes (T.take k)).1 = true) (hf : ((d.writes (T.take k)).2.write x.1 x.2).1 = false) : d.writes T = (d.writes (T.take k)).2.write x.1 x.2 := by
  have hn := Dk.writes_next hx h
  have e : d.writes T = d.writes (T.take (k + 1) ++ T.drop (k + 1)) := by rw [List.take_append_drop]
  rw [e, Dk.writes_stop (by rw [hn]; exact hf), hn]
theorem Dk.writes_ok : ∀ (T : List (Nat × ByteArray)) (d : Dk), (d.writes T).1 = true → d.Ok → (∀ x ∈ T, x.1 < d.safe.length) →
    (d.writes T).2.Ok ∧ (d.writes T).2.safe = d.safe ∧ (d.writes T).2.late = d.late ++ T.map fun x => (x.1, pad x.2)
  | [], d, _, ok, _ => ⟨ok, rfl, by simp [Dk.writes]⟩
  | x :: r, d, h, ok, hT => by
    have hw : (d.write x.1 x.2).1 = true := by
      cases hw : (d.write x.1 x.2).1
      · simp [Dk.writes, hw] at h
      · rfl
    obtain ⟨ok1, hs1, hl1⟩ := Dk.write_ok hw ok (hT x (by simp))
    simp only [Dk.writes, hw, if_true] at h ⊢
    obtain ⟨ok2, hs2, hl2⟩ := Dk.writes_ok r _ h ok1 fun y hy => by rw [hs1]; exact hT y (by simp [hy])
    refine ⟨ok2, hs2.trans hs1, ?_⟩
    rw [hl2, hl1]
    simp

/-- What is written, is made sure of; then a record is. -/
def Dk.through (d : Dk) (T ps : List (Nat × ByteArray)) : Bool × Dk :=
  if (d.writes T).1 then (if (d.writes T).2.flush.1 then (d.writes T).2.flush.2.setRec ps else (false, (d.writes T).2.flush.2)) else (false, (d.writes T).2)
/-- The room of the log. -/
def room : Nat → List (Nat × ByteArray) → List (Nat × ByteArray)
  | _, [] => []
  | i, p :: r => (1 + i, p.2) :: room (i + 1) r
theorem room_at : ∀ (ps : List (Nat × ByteArray)) (i k : Nat) (p : Nat × ByteArray), ps[k]? = some p → (room i ps)[k]? = some (1 + (i + k), p.2)
  | [], _, _, _, h => by simp at h
  | q :: r, i, 0, p, h => by simp at h; subst h; simp [room]
  | q :: r, i, k + 1, p, h => by
    have := room_at r (i + 1) k p (by simpa using h)
    simp only [room, List.getElem?_cons_succ, this]
    congr 2; omega
theorem room_len : ∀ (ps : List (Nat × ByteArray)) (i : Nat), (room i ps).length = ps.length
  | [], _ => rfl
  | q :: r, i => by simp [room, room_len r]
theorem room_mem : ∀ (ps : List (Nat × ByteArray)) (i : Nat) (x : Nat × ByteArray), x ∈ room i ps → x.1 ≤ i + ps.length ∧ 1 ≤ x.1
  | [], _, _, h => by simp [room] at h
  | q :: r, i, x, h => by
    simp only [room, List.mem_cons] at h
    rcases h with rfl | h
    · simp; omega
    · have := room_mem r (i + 1) x h; simp; omega
/-- The places where they belong. -/
def home (ps : List (Nat × ByteArray)) : List (Nat × ByteArray) := ps.map fun p => (90 + p.1, p.2)
theorem home_at (ps : List (Nat × ByteArray)) (k : Nat) (p : Nat × ByteArray) (h : ps[k]? = some p) : (home ps)[k]? = some (90 + p.1, p.2) := by simp [home, h]
theorem home_len (ps : List (Nat × ByteArray)) : (home ps).length = ps.length := by simp [home]
end Go.Proofs.YtcbindgpbeaebaaDoor
