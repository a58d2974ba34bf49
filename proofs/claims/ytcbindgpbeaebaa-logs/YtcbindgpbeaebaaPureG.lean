import Derived.Test.YtcbindgpbeaebaaPureD
namespace Go.Proofs.Ytcbindgpbeaebaa

/-- Whatever of what is late stays: nothing is done, or the record stands, or all is done. -/
def Out (S : List ByteArray) (ps : List (Nat × ByteArray)) (S2 : List ByteArray) : Prop := OutA S S2 ∨ OutB S ps S2 ∨ OutC S ps S2
def Pend (S : List ByteArray) (ps : List (Nat × ByteArray)) (d : Dk) : Prop := ∀ K : List (Nat × ByteArray), (∀ x ∈ K, x ∈ d.late) → Out S ps (lay d.safe K)
theorem Pend.crash {S : List ByteArray} {ps : List (Nat × ByteArray)} {d : Dk} (h : Pend S ps d) (ks : List Int) : Pend S ps (d.crash ks) := fun K hK => by
  have : K = [] := by
    cases K with
    | nil => rfl
    | cons x r => exact absurd (hK x (by simp)) (by simp [Dk.crash])
  subst this
  exact h (kept d.late ks) fun x hx => kept_mem _ _ x hx
theorem Pend.done {S : List ByteArray} {ps : List (Nat × ByteArray)} {d d' : Dk} (h : Pend S ps d) (hs : d'.safe = d.safe) (hl : d'.late = d.late) : Pend S ps d' := fun K hK => by
  rw [hs]; exact h K fun x hx => hl ▸ hK x hx
theorem Pend.none {S : List ByteArray} {ps : List (Nat × ByteArray)} {d : Dk} (h : Out S ps d.safe) (hl : d.late = []) : Pend S ps d := fun K hK => by
  have : K = [] := by
    cases K with
    | nil => rfl
    | cons x r => exact absurd (hK x (by simp)) (by simp [hl])
  subst this
  exact h

/-- What a Commit that failed leaves, whatever stays. -/
theorem commit_pend (d : Dk) (ps : List (Nat × ByteArray)) (ok : d.Ok) (hf : d.failed + 1 ≤ 9223372036854775806) (hl : d.late = []) (hN : 90 < d.safe.length) (hp0 : 0 < ps.length) (hp : ps.length ≤ 80) (hb4 : ∀ p ∈ ps, 90 + p.1 < d.safe.length) (hz : ∀ p ∈ ps, p.2.size = 256) (hclr : rd d.safe 0 = pad (recB [])) (h9 : (commitL d ps false).1 = 9) :
    Pend d.safe ps (commitL d ps false).2.1 := by
  have hp0' : ps.length ≠ 0 := by omega
  have hrm : ∀ x ∈ room 0 ps, x.1 < d.safe.length := fun x hx => by have := room_mem ps 0 x hx; omega
  rcases Dk.through_cases d (room 0 ps) ps ok (by omega) hl (by omega) hrm with ⟨h1, h2, h3, j, h4⟩ | ⟨h1, h2, h3, h4⟩ | ⟨h1, h2, h2f, h3, h4⟩
  · have e : commitL d ps false = (9, (d.through (room 0 ps) ps).2, true) := by simp [commitL, h1, hp0']
    rw [e]
    intro K hK
    simp only at hK ⊢
    rw [h3]
    rw [h4] at hK
    exact .inl (out1 hN hp hclr fun x hx => List.mem_of_mem_take (hK x hx))
  · have e : commitL d ps false = (9, (d.through (room 0 ps) ps).2, true) := by simp [commitL, h1, hp0']
    rw [e]
    intro K hK
    simp only at hK ⊢
    rw [h3]
    rcases out2 hN hp hz hclr (K := K) (fun x hx => by
      have hx := hK x hx
      rcases h4 with h4 | h4
      · rw [h4] at hx; simp at hx
      · rw [h4] at hx; simpa using hx) with h | h
    · exact .inl h
    · exact .inr (.inl h)
  · have hlen1 := h2.len
    have hhm : ∀ x ∈ home ps, x.1 < (d.through (room 0 ps) ps).2.safe.length := fun x hx => by
      obtain ⟨p, hp, rfl⟩ := home_mem hx
      rw [hlen1]; exact hb4 p hp
    rcases Dk.through_cases (d.through (room 0 ps) ps).2 (home ps) [] h2.ok (by omega) h4 (by omega) hhm with ⟨g1, g2, g3, j, g4⟩ | ⟨g1, g2, g3, g4⟩ | ⟨g1, g2, g2f, g3, g4⟩
    · have e : commitL d ps false = (9, ((d.through (room 0 ps) ps).2.through (home ps) []).2, true) := by simp [commitL, h1, g1, hp0']
      rw [e]
      intro K hK
      simp only at hK ⊢
      rw [g3, h3]
      rw [g4] at hK
      exact .inr (.inl (out3 hN hp hz fun x hx => List.mem_of_mem_take (hK x hx)))
    · have e : commitL d ps false = (9, ((d.through (room 0 ps) ps).2.through (home ps) []).2, true) := by simp [commitL, h1, g1, hp0']
      rw [e]
      intro K hK
      simp only at hK ⊢
      rw [g3, h3]
      exact .inr (out4 hN hp hz (K := K) fun x hx => by
        have hx := hK x hx
        rcases g4 with g4 | g4
        · rw [g4] at hx; simp at hx
        · rw [g4] at hx; simpa using hx)
    · have e : commitL d ps false = (0, ((d.through (room 0 ps) ps).2.through (home ps) []).2, false) := by simp [commitL, h1, g1, hp0']
      rw [e] at h9
      cases h9

/-- From the record on: some of the places are written. -/
theorem outB_home {S S2 : List ByteArray} {ps : List (Nat × ByteArray)} {K : List (Nat × ByteArray)} (hN : 90 < S.length) (hlen : S2.length = S.length) (hp : ps.length ≤ 80) (h : OutB S ps S2) (hK : ∀ x ∈ K, x ∈ padT (home ps)) : OutB S ps (lay S2 K) := by
  obtain ⟨a, b, c⟩ := h
  obtain ⟨h0, h1, h9⟩ := in_home hK
  refine ⟨by rw [rd_lay_none (by omega) h0]; exact a, fun k p hk => ?_, fun i hi hn => by rw [rd_lay_none (by omega) (h9 i hn)]; exact c i hi hn⟩
  have hk' : k < ps.length := (List.getElem?_eq_some_iff.1 hk).1
  rw [rd_lay_none (by omega) (h1 k (by omega))]; exact b k p hk
/-- All of them are. -/
theorem outB_all {S S2 : List ByteArray} {ps : List (Nat × ByteArray)} (hlen : S2.length = S.length) (hz : ∀ p ∈ ps, p.2.size = 256) (h : OutB S ps S2) : ∀ i, 90 + i < S.length → rd (lay S2 (padT (home ps))) (90 + i) = (lastOf ps i).getD (rd S (90 + i)) := fun i hi => by
  obtain ⟨_, _, h9⟩ := in_home (ps := ps) (K := padT (home ps)) fun x hx => hx
  cases hl : lastOf ps i with
  | none => rw [rd_lay_none (by omega) (h9 i hl), h.2.2 i hi hl]; rfl
  | some s =>
    obtain ⟨x, hx, e⟩ := lastOf_mem ps i s hl
    have hs := hz x hx
    rw [e] at hs
    rw [rd_lay_some (s := s) (by omega) (by rw [lastOf_padT, lastOf_home, hl]; simp [pad_full hs]), blk_full hs]
    rfl
theorem outB_clear {S S2 : List ByteArray} {ps : List (Nat × ByteArray)} {K : List (Nat × ByteArray)} (hN : 90 < S.length) (hlen : S2.length = S.length) (hp : ps.length ≤ 80) (hz : ∀ p ∈ ps, p.2.size = 256) (h : OutB S ps S2) (hK : ∀ x ∈ K, x = (0, pad (recB []))) : OutB S ps (lay (lay S2 (padT (home ps))) K) ∨ OutC S ps (lay (lay S2 (padT (home ps))) K) := by
  have hB := outB_home hN hlen hp h (K := padT (home ps)) fun x hx => hx
  have hA := outB_all hlen hz h
  have hlen2 : (lay S2 (padT (home ps))).length = S.length := by rw [lay_len, hlen]
  obtain ⟨h0, h1⟩ := in_one hK
  have h9 : ∀ i, 90 + i < S.length → rd (lay (lay S2 (padT (home ps))) K) (90 + i) = rd (lay S2 (padT (home ps))) (90 + i) := fun i hi =>
    rd_lay_none (by omega) (by rw [show 90 + i = 1 + (89 + i) by omega]; exact h1 _)
  rcases h0 with h0 | h0
  · refine .inl ⟨by rw [rd_lay_none (by omega) h0]; exact hB.1, fun k p hk => ?_, fun i hi hn => by rw [h9 i hi]; exact hB.2.2 i hi hn⟩
    have hk' : k < ps.length := (List.getElem?_eq_some_iff.1 hk).1
    rw [rd_lay_none (by omega) (h1 k)]; exact hB.2.1 k p hk
  · exact .inr ⟨by rw [rd_lay_some (by omega) h0]; exact rec_nil, fun i hi => by rw [h9 i hi]; exact hA i hi⟩

/-- What Open makes of a disk of which anything may have stayed, whatever fails. -/
theorem redo_pend (d : Dk) (S : List ByteArray) (ps : List (Nat × ByteArray)) (ok : d.Ok) (hf : d.failed + 1 ≤ 9223372036854775806) (hlen : d.safe.length = S.length) (hN : 90 < S.length) (hp0 : 0 < ps.length) (hp : ps.length ≤ 80) (hb4 : ∀ p ∈ ps, 90 + p.1 < S.length) (hz : ∀ p ∈ ps, p.2.size = 256) (h : Pend S ps d) :
    ∃ psR, psR.length ≤ 80 ∧ (∀ p ∈ psR, 90 + p.1 < d.safe.length) ∧ (d.flush.1 = true → Tells (d.flush.2.read 0) psR) ∧ (∀ p ∈ inRoom d.flush.2 0 psR, p.2.size ≤ 256) ∧ (d.redo psR).2.Ok ∧ (d.redo psR).2.failed ≤ d.failed + 1 ∧ (d.redo psR).2.safe.length = S.length ∧ (d.redo psR).2.late.length ≤ max 80 d.late.length ∧
      (((d.redo psR).1 = false ∧ Pend S ps (d.redo psR).2 ∧ (d.redo psR).2.failed = d.failed + 1) ∨ ((d.redo psR).1 = false ∧ Pend S ps (d.redo psR).2 ∧ (d.redo psR).2.life = 0) ∨
       ((d.redo psR).1 = true ∧ (d.redo psR).2.late = [] ∧ (OutA S (d.redo psR).2.safe ∨ OutC S ps (d.redo psR).2.safe))) := by
  cases hfl : d.flush.1 with
  | false =>
    have e : d.redo [] = (false, d.flush.2) := by simp [Dk.redo, hfl]
    obtain ⟨a, b, c⟩ := Dk.flush_fail hfl ok (by omega)
    refine ⟨[], by simp, by simp, fun e => (by cases e), by simp [inRoom], ?_⟩
    rw [e]
    exact ⟨a.ok, a.f, by rw [a.len, hlen], by simp only; rw [c]; omega, .inl ⟨rfl, h.done b c, a.fe⟩⟩
  | true =>
    obtain ⟨ok1, hs1, hl1⟩ := Dk.flush_ok hfl ok
    have hf1 := Dk.flush_f hfl ok
    have hlen1 : d.flush.2.safe.length = S.length := by rw [hs1, lay_len, hlen]
    have out : Out S ps d.flush.2.safe := by rw [hs1]; exact h d.late fun x hx => hx
    have hn := ok1.n
    have quiet : (OutA S d.flush.2.safe ∨ OutC S ps d.flush.2.safe) → rd d.flush.2.safe 0 = pad (recB []) → ∃ psR, psR.length ≤ 80 ∧ (∀ p ∈ psR, 90 + p.1 < d.safe.length) ∧ (true = true → Tells (d.flush.2.read 0) psR) ∧ (∀ p ∈ inRoom d.flush.2 0 psR, p.2.size ≤ 256) ∧ (d.redo psR).2.Ok ∧ (d.redo psR).2.failed ≤ d.failed + 1 ∧ (d.redo psR).2.safe.length = S.length ∧ (d.redo psR).2.late.length ≤ max 80 d.late.length ∧
        (((d.redo psR).1 = false ∧ Pend S ps (d.redo psR).2 ∧ (d.redo psR).2.failed = d.failed + 1) ∨ ((d.redo psR).1 = false ∧ Pend S ps (d.redo psR).2 ∧ (d.redo psR).2.life = 0) ∨
         ((d.redo psR).1 = true ∧ (d.redo psR).2.late = [] ∧ (OutA S (d.redo psR).2.safe ∨ OutC S ps (d.redo psR).2.safe))) := fun hAC h0 => by
      have t0 : Tells (d.flush.2.read 0) [] := by
        rw [read_rd hl1, h0]
        exact tells_rec [] (by simp) (by simp)
      by_cases hd : d.flush.2.life = 0
      · have e : d.redo [] = (false, d.flush.2) := by simp [Dk.redo, hfl, hd]
        refine ⟨[], by simp, by simp, fun _ => t0, by simp [inRoom], ?_⟩
        rw [e]
        exact ⟨ok1, by simp only; omega, hlen1, by simp only; rw [hl1]; simp, .inr (.inl ⟨rfl, Pend.none (hAC.elim .inl fun h => .inr (.inr h)) hl1, hd⟩)⟩
      · have e : d.redo [] = (true, d.flush.2) := by simp [Dk.redo, hfl, hd]
        refine ⟨[], by simp, by simp, fun _ => t0, by simp [inRoom], ?_⟩
        rw [e]
        exact ⟨ok1, by simp only; omega, hlen1, by simp only; rw [hl1]; simp, .inr (.inr ⟨rfl, hl1, hAC⟩)⟩
    rcases out with hA | hB | hC
    · exact quiet (.inl hA) hA.1
    · have hroom : inRoom d.flush.2 0 ps = ps := by
        apply List.ext_getElem?
        intro k
        cases hk : ps[k]? with
        | none =>
          rw [List.getElem?_eq_none_iff] at hk ⊢
          rw [inRoom_len]; exact hk
        | some p =>
          rw [inRoom_at d.flush.2 ps 0 k p hk, Nat.zero_add, read_rd hl1, hB.2.1 k p hk]
      have t1 : Tells (d.flush.2.read 0) ps := by
        rw [read_rd hl1, hB.1]
        exact tells_rec ps hp fun p hp => by have := hb4 p hp; omega
      refine ⟨ps, hp, fun p hp => by rw [hlen]; exact hb4 p hp, fun _ => t1, by rw [hroom]; exact fun p hp => Nat.le_of_eq (hz p hp), ?_⟩
      by_cases hd : d.flush.2.life = 0
      · have e : d.redo ps = (false, d.flush.2) := by simp [Dk.redo, hfl, hd]
        rw [e]
        exact ⟨ok1, by simp only; omega, hlen1, by simp only; rw [hl1]; simp, .inr (.inl ⟨rfl, Pend.none (.inr (.inl hB)) hl1, hd⟩)⟩
      · have hp0' : ps.length ≠ 0 := by omega
        have e : d.redo ps = d.flush.2.through (home ps) [] := by
          simp only [Dk.redo, hfl, if_true, hd, if_false, hp0', hroom]
        rw [e]
        have hhm : ∀ x ∈ home ps, x.1 < d.flush.2.safe.length := fun x hx => by
          obtain ⟨p, hp, rfl⟩ := home_mem hx
          rw [hlen1]; exact hb4 p hp
        have hhl : (padT (home ps)).length ≤ 80 := by simp [padT, home_len]; omega
        rcases Dk.through_cases d.flush.2 (home ps) [] ok1 (by omega) hl1 (by omega) hhm with ⟨g1, g2, g3, j, g4⟩ | ⟨g1, g2, g3, g4⟩ | ⟨g1, g2, g2f, g3, g4⟩
        · refine ⟨g2.ok, by have := g2.f; omega, by rw [g2.len, hlen1], by rw [g4, List.length_take]; omega, .inl ⟨g1, fun K hK => ?_, by have := g2.fe; omega⟩⟩
          rw [g3]
          rw [g4] at hK
          exact .inr (.inl (outB_home hN hlen1 hp hB fun x hx => List.mem_of_mem_take (hK x hx)))
        · refine ⟨g2.ok, by have := g2.f; omega, by rw [g2.len, hlen1], by rcases g4 with g4 | g4 <;> rw [g4] <;> simp <;> omega, .inl ⟨g1, fun K hK => ?_, by have := g2.fe; omega⟩⟩
          rw [g3]
          exact .inr (outB_clear hN hlen1 hp hz hB fun x hx => by
            have hx := hK x hx
            rcases g4 with g4 | g4
            · rw [g4] at hx; simp at hx
            · rw [g4] at hx; simpa using hx)
        · refine ⟨g2.ok, by omega, by rw [g2.len, hlen1], by rw [g4]; simp, .inr (.inr ⟨g1, g4, .inr ?_⟩)⟩
          rw [g3]
          have hlen2 : (lay d.flush.2.safe (padT (home ps))).length = S.length := by rw [lay_len, hlen1]
          have h1 := (in_one (K := [(0, pad (recB []))]) (s := pad (recB [])) (fun x hx => by simpa using hx)).2
          refine ⟨by rw [rd_lay_some (s := pad (recB [])) (by omega) (by simp [lastOf])]; exact rec_nil, fun i hi => ?_⟩
          rw [rd_lay_none (by omega) (by rw [show 90 + i = 1 + (89 + i) by omega]; exact h1 _)]
          exact outB_all hlen1 hz hB i hi
    · exact quiet (.inr hC) hC.1
end Go.Proofs.Ytcbindgpbeaebaa
