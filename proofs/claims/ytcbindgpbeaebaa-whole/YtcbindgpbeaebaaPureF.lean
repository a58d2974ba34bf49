import Derived.Test.YtcbindgpbeaebaaPureE
namespace Go.Proofs.Ytcbindgpbeaebaa

/-- Is a block among those that are put? -/
def isIn (first n i : Nat) : Bool := decide ((i + 100 - first) % 100 < n)

/-- A disk behind a first transaction. -/
structure First (first n : Nat) (s : ByteArray) (d : Dk) : Prop where
  ok : d.Ok
  well : d.Well
  failed : d.failed = 0
  late : d.late = []
  len : d.safe.length = 190
  clr : rd d.safe 0 = pad (recB [])
  has : ∀ i, i < 100 → rd d.safe (90 + i) = if isIn first n i = true then pad s else zs 256

theorem first_commit (first n : Nat) (s : ByteArray) (hf : first < 100) (h1 : 1 ≤ n) (h2 : n ≤ 80) (hs : s.size ≤ 256) :
    (commitL (newDk 190) (psOf first n s) false).1 = 0 ∧ (commitL (newDk 190) (psOf first n s) false).2.2 = false ∧ First first n s (commitL (newDk 190) (psOf first n s) false).2.1 := by
  have hlen := psOf_len first n s
  have hN : (newDk 190).safe.length = 190 := List.length_replicate
  have hps : ∀ p ∈ psOf first n s, 90 + p.1 < (newDk 190).safe.length := fun p hp => by
    obtain ⟨k, _, rfl⟩ := psOf_mem hp
    simp only; omega
  have hsz : ∀ p ∈ psOf first n s, p.2.size = 256 := fun p hp => by
    obtain ⟨k, _, rfl⟩ := psOf_mem hp
    exact pad_size hs
  obtain ⟨a1, a2⟩ := Dk.through_well (newDk_well 190) (room 0 (psOf first n s)) (psOf first n s)
  obtain ⟨b1, b2⟩ := Dk.through_well a2 (home (psOf first n s)) []
  have e : commitL (newDk 190) (psOf first n s) false = (0, (((newDk 190).through (room 0 (psOf first n s)) (psOf first n s)).2.through (home (psOf first n s)) []).2, false) := by
    have : (psOf first n s).length ≠ 0 := by omega
    simp only [commitL, a1, b1, if_true, this]
    simp
  obtain ⟨c1, c2, c3, c4, c5, c6⟩ := commit_crash (newDk 190) (psOf first n s) (newDk_ok 190 (by omega)) (by show (0 : Int) + 1 ≤ _; omega) rfl (by omega) (by omega) (by omega) hps hsz (by rw [rd_new, clr_zero])
  have hw : (commitL (newDk 190) (psOf first n s) false).2.1.Well := by rw [e]; exact b2
  rcases c6 with ⟨g, _⟩ | ⟨g1, g2, g3, g4, g5⟩
  · rw [e] at g; cases g
  · refine ⟨g1, g2, c1, hw, by rw [g4]; rfl, g3, by rw [c3, hN], g5.1, fun i hi => ?_⟩
    rw [g5.2 i (by omega), rd_new, lastOf_psOf first n i s (by omega) hf hi]
    unfold isIn
    by_cases h : (i + 100 - first) % 100 < n <;> simp [h]

/-- What the second transaction leaves. -/
theorem second_commit (first n : Nat) (s t : ByteArray) (d : Dk) (L : Int) (hf : first < 100) (h1 : 1 ≤ n) (h2 : n ≤ 80) (ht : t.size ≤ 256) (hd : First first n s d) (l0 : 0 ≤ L) (l1 : L ≤ 9223372036854775807) :
    (commitL { d with life := L } (psOf first n t) false).2.1.Ok ∧ (commitL { d with life := L } (psOf first n t) false).2.1.late.length ≤ 80 ∧ (commitL { d with life := L } (psOf first n t) false).2.1.safe.length = 190 ∧
    ((commitL { d with life := L } (psOf first n t) false).1 = 0 ∨ ((commitL { d with life := L } (psOf first n t) false).1 = 9 ∧ (commitL { d with life := L } (psOf first n t) false).2.1.life = 0)) ∧
    ∀ ks, ((commitL { d with life := L } (psOf first n t) false).2.1.crash ks).Ok ∧ ((commitL { d with life := L } (psOf first n t) false).2.1.crash ks).safe.length = 190 ∧ ∃ psR,
      psR.length ≤ 80 ∧ (∀ p ∈ psR, 90 + p.1 < ((commitL { d with life := L } (psOf first n t) false).2.1.crash ks).safe.length) ∧ Tells (((commitL { d with life := L } (psOf first n t) false).2.1.crash ks).flush.2.read 0) psR ∧
      (∀ p ∈ inRoom ((commitL { d with life := L } (psOf first n t) false).2.1.crash ks).flush.2 0 psR, p.2.size ≤ 256) ∧ (((commitL { d with life := L } (psOf first n t) false).2.1.crash ks).redo psR).1 = true ∧
      (((commitL { d with life := L } (psOf first n t) false).2.1.crash ks).redo psR).2.safe.length = 190 ∧ (((commitL { d with life := L } (psOf first n t) false).2.1.crash ks).redo psR).2.late = [] ∧
      (((commitL { d with life := L } (psOf first n t) false).2.1.crash ks).redo psR).2.life = -1 ∧
      ∃ V, (V = t ∨ (V = s ∧ (commitL { d with life := L } (psOf first n t) false).1 = 9)) ∧ ∀ i, i < 100 → (((commitL { d with life := L } (psOf first n t) false).2.1.crash ks).redo psR).2.read (90 + i) = if isIn first n i = true then pad V else zs 256 := by
  obtain ⟨ok, well, failed, late, len, clr, has⟩ := hd
  obtain ⟨w0, w1, _, _, f0, f1, nn, lt⟩ := ok
  have hlen := psOf_len first n t
  have hps : ∀ p ∈ psOf first n t, 90 + p.1 < ({ d with life := L } : Dk).safe.length := fun p hp => by
    obtain ⟨k, _, rfl⟩ := psOf_mem hp
    simp only; omega
  have hsz : ∀ p ∈ psOf first n t, p.2.size = 256 := fun p hp => by
    obtain ⟨k, _, rfl⟩ := psOf_mem hp
    exact pad_size ht
  have ok' : ({ d with life := L } : Dk).Ok := ⟨w0, w1, by simp only; omega, l1, f0, f1, nn, lt⟩
  obtain ⟨c1, c2, c3, c4, c5, c6⟩ := commit_crash { d with life := L } (psOf first n t) ok' (by simp only; omega) late (by simp only; omega) (by omega) (by omega) hps hsz clr
  simp only at c2 c3 c5 c6
  generalize commitL { d with life := L } (psOf first n t) false = r at c1 c2 c3 c4 c5 c6 ⊢
  obtain ⟨c, d2, br⟩ := r
  simp only at c1 c2 c3 c4 c5 c6 ⊢
  refine ⟨c1, c4, by omega, ?_, fun ks => ?_⟩
  · rcases c6 with ⟨g1, _, g3, _⟩ | ⟨g1, _⟩
    · exact .inr ⟨g1, g3 well.1⟩
    · exact .inl g1
  · have hlk : (lay d2.safe (kept d2.late ks)).length = 190 := by rw [lay_len]; omega
    have ok3 : (d2.crash ks).Ok := ⟨by simp [Dk.crash], by simp [Dk.crash], by simp [Dk.crash], by simp [Dk.crash], c1.f0, c1.f1, by simp only [Dk.crash]; omega, by simp [Dk.crash]⟩
    refine ⟨ok3, hlk, ?_⟩
    have hout : OutA d.safe (d2.crash ks).safe ∨ OutB d.safe (psOf first n t) (d2.crash ks).safe ∨ OutC d.safe (psOf first n t) (d2.crash ks).safe := by
      rcases c6 with ⟨_, _, _, g4⟩ | ⟨_, _, g3, _, g5⟩
      · exact g4 ks
      · refine .inr (.inr ?_)
        have : (d2.crash ks).safe = d2.safe := by
          have : kept d2.late ks = [] := by rw [g3]; cases ks <;> rfl
          simp [Dk.crash, this, lay]
        rw [this]; exact g5
    obtain ⟨psR, q1, q2, q3, q3b, q4, q5, q6, q6f, q7, q8, q9, q10⟩ := open_finds (d2.crash ks) d.safe (psOf first n t) ok3 (by simp only [Dk.crash]; omega) ⟨rfl, rfl⟩ rfl (by rw [len]; exact hlk) (by omega) (by omega) (by omega) (fun p hp => hps p hp) hsz hout
    refine ⟨psR, q1, q2, q3, q3b, q4, by omega, q7, q5.2, ?_⟩
    have key : ∀ i, i < 100 → ((psOf first n t) |> fun l => (lastOf l i).getD (rd d.safe (90 + i))) = if isIn first n i = true then pad t else zs 256 := fun i hi => by
      simp only
      rw [lastOf_psOf first n i t (by omega) hf hi, has i hi]
      unfold isIn
      by_cases h : (i + 100 - first) % 100 < n <;> simp [h]
    rcases q10 with ⟨oa, q10⟩ | q10
    · rcases c6 with ⟨g1, _⟩ | ⟨g1, _, g3, _, g5⟩
      · refine ⟨s, .inr ⟨rfl, g1⟩, fun i hi => ?_⟩
        rw [read_rd q7, q10 i (by omega), has i hi]
      · refine ⟨t, .inl rfl, fun i hi => ?_⟩
        have : (d2.crash ks).safe = d2.safe := by
          have : kept d2.late ks = [] := by rw [g3]; cases ks <;> rfl
          simp [Dk.crash, this, lay]
        rw [read_rd q7, q10 i (by omega), ← oa.2 i (by omega), this, g5.2 i (by omega)]
        exact key i hi
    · refine ⟨t, .inl rfl, fun i hi => ?_⟩
      rw [read_rd q7, q10 i (by omega)]
      exact key i hi
end Go.Proofs.Ytcbindgpbeaebaa
