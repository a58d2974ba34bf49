import Derived.Test.YtcbindgpbeaebaaPureC
namespace Go.Proofs.Ytcbindgpbeaebaa

theorem lastOf_eq_none : ∀ (X : List (Nat × ByteArray)) (i : Nat), lastOf X i = none → ∀ x ∈ X, x.1 ≠ i
  | [], _, _, x, hx => by simp at hx
  | y :: r, i, h, x, hx => by
    rw [lastOf] at h
    cases hr : lastOf r i with
    | some t => rw [hr] at h; cases h
    | none =>
      rw [hr] at h
      rcases List.mem_cons.1 hx with rfl | hx
      · intro e; simp [e] at h
      · exact lastOf_eq_none r i hr x hx

section
variable (S : List ByteArray) (ps : List (Nat × ByteArray))
/-- Nothing is done. -/
def OutA (S2 : List ByteArray) : Prop := rd S2 0 = pad (recB []) ∧ ∀ i, 90 + i < S.length → rd S2 (90 + i) = rd S (90 + i)
/-- The record stands. -/
def OutB (S2 : List ByteArray) : Prop := rd S2 0 = pad (recB ps) ∧ (∀ k p, ps[k]? = some p → rd S2 (1 + k) = p.2) ∧ ∀ i, 90 + i < S.length → lastOf ps i = none → rd S2 (90 + i) = rd S (90 + i)
/-- All is done. -/
def OutC (S2 : List ByteArray) : Prop := rd S2 0 = pad (recB []) ∧ ∀ i, 90 + i < S.length → rd S2 (90 + i) = (lastOf ps i).getD (rd S (90 + i))
end


theorem in_room {ps : List (Nat × ByteArray)} (hp : ps.length ≤ 80) {K : List (Nat × ByteArray)} (hK : ∀ x ∈ K, x ∈ padT (room 0 ps)) : lastOf K 0 = none ∧ ∀ i, lastOf K (90 + i) = none := by
  have h : ∀ x ∈ K, 1 ≤ x.1 ∧ x.1 ≤ 80 := fun x hx => by
    obtain ⟨y, hy, rfl⟩ := padT_mem (hK x hx)
    have := room_mem ps 0 y hy
    simp only; omega
  exact ⟨lastOf_none_of fun x hx => by have := h x hx; omega, fun i => lastOf_none_of fun x hx => by have := h x hx; omega⟩
theorem in_home {ps : List (Nat × ByteArray)} {K : List (Nat × ByteArray)} (hK : ∀ x ∈ K, x ∈ padT (home ps)) : lastOf K 0 = none ∧ (∀ k, k < 80 → lastOf K (1 + k) = none) ∧ ∀ i, lastOf ps i = none → lastOf K (90 + i) = none := by
  have h : ∀ x ∈ K, ∃ p ∈ ps, x.1 = 90 + p.1 := fun x hx => by
    obtain ⟨y, hy, rfl⟩ := padT_mem (hK x hx)
    obtain ⟨p, hp, rfl⟩ := home_mem hy
    exact ⟨p, hp, rfl⟩
  refine ⟨lastOf_none_of fun x hx => ?_, fun k hk => lastOf_none_of fun x hx => ?_, fun i hi => lastOf_none_of fun x hx => ?_⟩
  · obtain ⟨p, _, e⟩ := h x hx; omega
  · obtain ⟨p, _, e⟩ := h x hx; omega
  · obtain ⟨p, hp, e⟩ := h x hx
    have := lastOf_eq_none ps i hi p hp
    omega
theorem in_one {K : List (Nat × ByteArray)} {s : ByteArray} (hK : ∀ x ∈ K, x = (0, s)) : (lastOf K 0 = none ∨ lastOf K 0 = some s) ∧ ∀ i, lastOf K (1 + i) = none := by
  refine ⟨?_, fun i => lastOf_none_of fun x hx => by rw [hK x hx]; simp only; omega⟩
  cases h : lastOf K 0 with
  | none => exact .inl rfl
  | some t =>
    obtain ⟨x, hx, e⟩ := lastOf_mem K 0 t h
    rw [hK x hx] at e
    exact .inr (by rw [← e])

theorem rec_full {ps : List (Nat × ByteArray)} (hp : ps.length ≤ 80) : blk (pad (recB ps)) = pad (recB ps) := blk_full (pad_size (recB_size ps hp))
theorem rec_nil : blk (pad (recB [])) = pad (recB []) := blk_full (pad_size (by decide))

/-- Behind the room. -/
theorem st_room {S : List ByteArray} {ps : List (Nat × ByteArray)} (hN : 90 < S.length) (hp : ps.length ≤ 80) (hz : ∀ p ∈ ps, p.2.size = 256) : rd (lay S (padT (room 0 ps))) 0 = rd S 0 ∧ (∀ k p, ps[k]? = some p → rd (lay S (padT (room 0 ps))) (1 + k) = p.2) ∧ ∀ i, 90 + i < S.length → rd (lay S (padT (room 0 ps))) (90 + i) = rd S (90 + i) := by
  obtain ⟨h0, h9⟩ := in_room hp (K := padT (room 0 ps)) fun x hx => hx
  refine ⟨rd_lay_none (by omega) h0, fun k p hk => ?_, fun i hi => rd_lay_none hi (h9 i)⟩
  have hk' : k < ps.length := (List.getElem?_eq_some_iff.1 hk).1
  have hl := lastOf_room ps 0 k p hk
  rw [Nat.zero_add] at hl
  have hs := hz p (List.mem_of_getElem? hk)
  rw [rd_lay_some (s := p.2) (by omega) (by rw [lastOf_padT, hl]; simp [pad_full hs])]
  exact blk_full hs

/-- Behind the record. -/
theorem st_rec {S : List ByteArray} {ps : List (Nat × ByteArray)} (hN : 90 < S.length) (hp : ps.length ≤ 80) (hz : ∀ p ∈ ps, p.2.size = 256) : rd (lay (lay S (padT (room 0 ps))) [(0, pad (recB ps))]) 0 = pad (recB ps) ∧ (∀ k p, ps[k]? = some p → rd (lay (lay S (padT (room 0 ps))) [(0, pad (recB ps))]) (1 + k) = p.2) ∧ ∀ i, 90 + i < S.length → rd (lay (lay S (padT (room 0 ps))) [(0, pad (recB ps))]) (90 + i) = rd S (90 + i) := by
  obtain ⟨a, b, c⟩ := st_room hN hp hz
  have hlen := lay_len (padT (room 0 ps)) S
  have h1 := (in_one (K := [(0, pad (recB ps))]) (s := pad (recB ps)) (fun x hx => by simpa using hx)).2
  refine ⟨?_, fun k p hk => ?_, fun i hi => ?_⟩
  · rw [rd_lay_some (s := pad (recB ps)) (by omega) (by simp [lastOf])]
    exact rec_full hp
  · have hk' : k < ps.length := (List.getElem?_eq_some_iff.1 hk).1
    rw [rd_lay_none (by omega) (h1 k)]
    exact b k p hk
  · rw [rd_lay_none (by omega) (by rw [show 90 + i = 1 + (89 + i) by omega]; exact h1 _)]
    exact c i hi

/-- Behind the places where they belong. -/
theorem st_home {S : List ByteArray} {ps : List (Nat × ByteArray)} (hN : 90 < S.length) (hp : ps.length ≤ 80) (hz : ∀ p ∈ ps, p.2.size = 256) : rd (lay (lay (lay S (padT (room 0 ps))) [(0, pad (recB ps))]) (padT (home ps))) 0 = pad (recB ps) ∧ (∀ k p, ps[k]? = some p → rd (lay (lay (lay S (padT (room 0 ps))) [(0, pad (recB ps))]) (padT (home ps))) (1 + k) = p.2) ∧
    ∀ i, 90 + i < S.length → rd (lay (lay (lay S (padT (room 0 ps))) [(0, pad (recB ps))]) (padT (home ps))) (90 + i) = (lastOf ps i).getD (rd S (90 + i)) := by
  obtain ⟨a, b, c⟩ := st_rec hN hp hz
  obtain ⟨h0, h1, h9⟩ := in_home (K := padT (home ps)) fun x hx => hx
  have hlen : (lay (lay S (padT (room 0 ps))) [(0, pad (recB ps))]).length = S.length := by rw [lay_len, lay_len]
  refine ⟨?_, fun k p hk => ?_, fun i hi => ?_⟩
  · rw [rd_lay_none (by omega) h0]; exact a
  · have hk' : k < ps.length := (List.getElem?_eq_some_iff.1 hk).1
    rw [rd_lay_none (by omega) (h1 k (by omega))]; exact b k p hk
  · cases hl : lastOf ps i with
    | none => rw [rd_lay_none (by omega) (h9 i hl), c i hi]; rfl
    | some s =>
      obtain ⟨x, hx, e⟩ := lastOf_mem ps i s hl
      have hs := hz x hx
      rw [e] at hs
      rw [rd_lay_some (s := s) (by omega) (by rw [lastOf_padT, lastOf_home, hl]; simp [pad_full hs]), blk_full hs]
      rfl

theorem out1 {S : List ByteArray} {ps : List (Nat × ByteArray)} (hN : 90 < S.length) (hp : ps.length ≤ 80) (hclr : rd S 0 = pad (recB [])) {K : List (Nat × ByteArray)} (hK : ∀ x ∈ K, x ∈ padT (room 0 ps)) : OutA S (lay S K) := by
  obtain ⟨h0, h9⟩ := in_room hp hK
  exact ⟨(rd_lay_none (by omega) h0).trans hclr, fun i hi => rd_lay_none hi (h9 i)⟩
theorem out2 {S : List ByteArray} {ps : List (Nat × ByteArray)} (hN : 90 < S.length) (hp : ps.length ≤ 80) (hz : ∀ p ∈ ps, p.2.size = 256) (hclr : rd S 0 = pad (recB [])) {K : List (Nat × ByteArray)} (hK : ∀ x ∈ K, x = (0, pad (recB ps))) : OutA S (lay (lay S (padT (room 0 ps))) K) ∨ OutB S ps (lay (lay S (padT (room 0 ps))) K) := by
  obtain ⟨a, b, c⟩ := st_room hN hp hz
  have hlen := lay_len (padT (room 0 ps)) S
  obtain ⟨h0, h1⟩ := in_one hK
  have h9 : ∀ i, 90 + i < S.length → rd (lay (lay S (padT (room 0 ps))) K) (90 + i) = rd S (90 + i) := fun i hi => by
    rw [rd_lay_none (by omega) (by rw [show 90 + i = 1 + (89 + i) by omega]; exact h1 _)]; exact c i hi
  rcases h0 with h0 | h0
  · exact .inl ⟨by rw [rd_lay_none (by omega) h0, a]; exact hclr, h9⟩
  · refine .inr ⟨by rw [rd_lay_some (by omega) h0]; exact rec_full hp, fun k p hk => ?_, fun i hi _ => h9 i hi⟩
    have hk' : k < ps.length := (List.getElem?_eq_some_iff.1 hk).1
    rw [rd_lay_none (by omega) (h1 k)]; exact b k p hk
theorem out3 {S : List ByteArray} {ps : List (Nat × ByteArray)} (hN : 90 < S.length) (hp : ps.length ≤ 80) (hz : ∀ p ∈ ps, p.2.size = 256) {K : List (Nat × ByteArray)} (hK : ∀ x ∈ K, x ∈ padT (home ps)) : OutB S ps (lay (lay (lay S (padT (room 0 ps))) [(0, pad (recB ps))]) K) := by
  obtain ⟨a, b, c⟩ := st_rec hN hp hz
  obtain ⟨h0, h1, h9⟩ := in_home hK
  have hlen : (lay (lay S (padT (room 0 ps))) [(0, pad (recB ps))]).length = S.length := by rw [lay_len, lay_len]
  refine ⟨by rw [rd_lay_none (by omega) h0]; exact a, fun k p hk => ?_, fun i hi hn => by rw [rd_lay_none (by omega) (h9 i hn)]; exact c i hi⟩
  have hk' : k < ps.length := (List.getElem?_eq_some_iff.1 hk).1
  rw [rd_lay_none (by omega) (h1 k (by omega))]; exact b k p hk
theorem out4 {S : List ByteArray} {ps : List (Nat × ByteArray)} (hN : 90 < S.length) (hp : ps.length ≤ 80) (hz : ∀ p ∈ ps, p.2.size = 256) {K : List (Nat × ByteArray)} (hK : ∀ x ∈ K, x = (0, pad (recB []))) : OutB S ps (lay (lay (lay (lay S (padT (room 0 ps))) [(0, pad (recB ps))]) (padT (home ps))) K) ∨ OutC S ps (lay (lay (lay (lay S (padT (room 0 ps))) [(0, pad (recB ps))]) (padT (home ps))) K) := by
  obtain ⟨a, b, c⟩ := st_home hN hp hz
  have hlen : (lay (lay (lay S (padT (room 0 ps))) [(0, pad (recB ps))]) (padT (home ps))).length = S.length := by rw [lay_len, lay_len, lay_len]
  obtain ⟨h0, h1⟩ := in_one hK
  have h9 : ∀ i, 90 + i < S.length → rd (lay (lay (lay (lay S (padT (room 0 ps))) [(0, pad (recB ps))]) (padT (home ps))) K) (90 + i) = (lastOf ps i).getD (rd S (90 + i)) := fun i hi => by
    rw [rd_lay_none (by omega) (by rw [show 90 + i = 1 + (89 + i) by omega]; exact h1 _)]; exact c i hi
  rcases h0 with h0 | h0
  · refine .inl ⟨by rw [rd_lay_none (by omega) h0]; exact a, fun k p hk => ?_, fun i hi hn => by rw [h9 i hi, hn]; rfl⟩
    have hk' : k < ps.length := (List.getElem?_eq_some_iff.1 hk).1
    rw [rd_lay_none (by omega) (h1 k)]; exact b k p hk
  · exact .inr ⟨by rw [rd_lay_some (by omega) h0]; exact rec_nil, h9⟩
theorem out5 {S : List ByteArray} {ps : List (Nat × ByteArray)} (hN : 90 < S.length) (hp : ps.length ≤ 80) (hz : ∀ p ∈ ps, p.2.size = 256) : OutC S ps (lay (lay (lay (lay S (padT (room 0 ps))) [(0, pad (recB ps))]) (padT (home ps))) [(0, pad (recB []))]) := by
  obtain ⟨a, b, c⟩ := st_home hN hp hz
  have hlen : (lay (lay (lay S (padT (room 0 ps))) [(0, pad (recB ps))]) (padT (home ps))).length = S.length := by rw [lay_len, lay_len, lay_len]
  have h1 := (in_one (K := [(0, pad (recB []))]) (s := pad (recB [])) (fun x hx => by simpa using hx)).2
  refine ⟨by rw [rd_lay_some (s := pad (recB [])) (by omega) (by simp [lastOf])]; exact rec_nil, fun i hi => ?_⟩
  rw [rd_lay_none (by omega) (by rw [show 90 + i = 1 + (89 + i) by omega]; exact h1 _)]
  exact c i hi

/-- What a Commit leaves, behind any crash. -/
theorem commit_crash (d : Dk) (ps : List (Nat × ByteArray)) (ok : d.Ok) (hf : d.failed + 1 ≤ 9223372036854775806) (hl : d.late = []) (hN : 90 < d.safe.length) (hp0 : 0 < ps.length) (hp : ps.length ≤ 80) (hb4 : ∀ p ∈ ps, 90 + p.1 < d.safe.length) (hz : ∀ p ∈ ps, p.2.size = 256) (hclr : rd d.safe 0 = pad (recB [])) :
    (commitL d ps false).2.1.Ok ∧ (commitL d ps false).2.1.failed ≤ d.failed + 1 ∧ (commitL d ps false).2.1.safe.length = d.safe.length ∧ (commitL d ps false).2.1.late.length ≤ 80 ∧ (d.wait = -1 → (commitL d ps false).2.1.wait = -1) ∧
    (((commitL d ps false).1 = 9 ∧ (commitL d ps false).2.2 = true ∧ (d.wait = -1 → (commitL d ps false).2.1.life = 0) ∧
        ∀ ks, OutA d.safe (lay (commitL d ps false).2.1.safe (kept (commitL d ps false).2.1.late ks)) ∨ OutB d.safe ps (lay (commitL d ps false).2.1.safe (kept (commitL d ps false).2.1.late ks)) ∨ OutC d.safe ps (lay (commitL d ps false).2.1.safe (kept (commitL d ps false).2.1.late ks))) ∨
     ((commitL d ps false).1 = 0 ∧ (commitL d ps false).2.2 = false ∧ (commitL d ps false).2.1.late = [] ∧ (commitL d ps false).2.1.failed = d.failed ∧ OutC d.safe ps (commitL d ps false).2.1.safe)) := by
  have hp0' : ps.length ≠ 0 := by omega
  have hrm : ∀ x ∈ room 0 ps, x.1 < d.safe.length := fun x hx => by have := room_mem ps 0 x hx; omega
  have hrl : (padT (room 0 ps)).length ≤ 80 := by simp [padT, room_len]; omega
  have hhl : (padT (home ps)).length ≤ 80 := by simp [padT, home_len]; omega
  rcases Dk.through_cases d (room 0 ps) ps ok (by omega) hl (by omega) hrm with ⟨h1, h2, h3, j, h4⟩ | ⟨h1, h2, h3, h4⟩ | ⟨h1, h2, h2f, h3, h4⟩
  · have e : commitL d ps false = (9, (d.through (room 0 ps) ps).2, true) := by simp [commitL, h1, hp0']
    rw [e]
    refine ⟨h2.ok, h2.f, h2.len, by simp only; rw [h4, List.length_take]; omega, h2.calm, .inl ⟨rfl, rfl, h2.dead, fun ks => ?_⟩⟩
    simp only
    rw [h3, h4]
    exact .inl (out1 hN hp hclr fun x hx => List.mem_of_mem_take (kept_mem _ _ x hx))
  · have e : commitL d ps false = (9, (d.through (room 0 ps) ps).2, true) := by simp [commitL, h1, hp0']
    rw [e]
    refine ⟨h2.ok, h2.f, h2.len, by simp only; rcases h4 with h4 | h4 <;> rw [h4] <;> simp, h2.calm, .inl ⟨rfl, rfl, h2.dead, fun ks => ?_⟩⟩
    simp only
    rw [h3]
    have := out2 hN hp hz hclr (K := kept (d.through (room 0 ps) ps).2.late ks) (fun x hx => by
      have hx := kept_mem _ _ x hx
      rcases h4 with h4 | h4
      · rw [h4] at hx; simp at hx
      · rw [h4] at hx; simpa using hx)
    rcases this with h | h
    · exact .inl h
    · exact .inr (.inl h)
  · have hlen1 := h2.len
    have hhm : ∀ x ∈ home ps, x.1 < (d.through (room 0 ps) ps).2.safe.length := fun x hx => by
      obtain ⟨p, hp, rfl⟩ := home_mem hx
      rw [hlen1]; exact hb4 p hp
    rcases Dk.through_cases (d.through (room 0 ps) ps).2 (home ps) [] h2.ok (by omega) h4 (by omega) hhm with ⟨g1, g2, g3, j, g4⟩ | ⟨g1, g2, g3, g4⟩ | ⟨g1, g2, g2f, g3, g4⟩
    · have e : commitL d ps false = (9, ((d.through (room 0 ps) ps).2.through (home ps) []).2, true) := by simp [commitL, h1, g1, hp0']
      rw [e]
      refine ⟨g2.ok, by have := g2.f; simp only; omega, by simp only; rw [g2.len, hlen1], by simp only; rw [g4, List.length_take]; omega, fun h => g2.calm (h2.calm h), .inl ⟨rfl, rfl, fun h => g2.dead (h2.calm h), fun ks => ?_⟩⟩
      simp only
      rw [g3, h3, g4]
      exact .inr (.inl (out3 hN hp hz fun x hx => List.mem_of_mem_take (kept_mem _ _ x hx)))
    · have e : commitL d ps false = (9, ((d.through (room 0 ps) ps).2.through (home ps) []).2, true) := by simp [commitL, h1, g1, hp0']
      rw [e]
      refine ⟨g2.ok, by have := g2.f; simp only; omega, by simp only; rw [g2.len, hlen1], by simp only; rcases g4 with g4 | g4 <;> rw [g4] <;> simp, fun h => g2.calm (h2.calm h), .inl ⟨rfl, rfl, fun h => g2.dead (h2.calm h), fun ks => ?_⟩⟩
      simp only
      rw [g3, h3]
      exact .inr (out4 hN hp hz (K := kept ((d.through (room 0 ps) ps).2.through (home ps) []).2.late ks) fun x hx => by
        have hx := kept_mem _ _ x hx
        rcases g4 with g4 | g4
        · rw [g4] at hx; simp at hx
        · rw [g4] at hx; simpa using hx)
    · have e : commitL d ps false = (0, ((d.through (room 0 ps) ps).2.through (home ps) []).2, false) := by simp [commitL, h1, g1, hp0']
      rw [e]
      refine ⟨g2.ok, by simp only; omega, by simp only; rw [g2.len, hlen1], by simp only; rw [g4]; simp, fun h => g2.calm (h2.calm h), .inr ⟨rfl, rfl, g4, by simp only; omega, ?_⟩⟩
      simp only
      rw [g3, h3]
      exact out5 hN hp hz

/-- What Open makes of it: all is as it was, or all is done. -/
theorem open_finds (d2 : Dk) (S : List ByteArray) (ps : List (Nat × ByteArray)) (ok : d2.Ok) (hf : d2.failed + 2 ≤ 9223372036854775806) (hw : d2.Well) (hl : d2.late = []) (hlen : d2.safe.length = S.length) (hN : 90 < S.length) (hp0 : 0 < ps.length) (hp : ps.length ≤ 80) (hb4 : ∀ p ∈ ps, 90 + p.1 < S.length) (hz : ∀ p ∈ ps, p.2.size = 256)
    (h : OutA S d2.safe ∨ OutB S ps d2.safe ∨ OutC S ps d2.safe) :
    ∃ psR, psR.length ≤ 80 ∧ (∀ p ∈ psR, 90 + p.1 < d2.safe.length) ∧ Tells (d2.flush.2.read 0) psR ∧ (∀ p ∈ inRoom d2.flush.2 0 psR, p.2.size ≤ 256) ∧ (d2.redo psR).1 = true ∧ (d2.redo psR).2.Well ∧ (d2.redo psR).2.Ok ∧ (d2.redo psR).2.failed = d2.failed ∧ (d2.redo psR).2.late = [] ∧ (d2.redo psR).2.safe.length = S.length ∧ rd (d2.redo psR).2.safe 0 = pad (recB []) ∧
      ((OutA S d2.safe ∧ ∀ i, 90 + i < S.length → rd (d2.redo psR).2.safe (90 + i) = rd S (90 + i)) ∨ ∀ i, 90 + i < S.length → rd (d2.redo psR).2.safe (90 + i) = (lastOf ps i).getD (rd S (90 + i))) := by
  have hfl := Dk.flush_none hw hl
  have hn := ok.n
  have e0 : d2.redo [] = (true, d2) := by simp [Dk.redo, hfl, hw.2]
  have t0 : rd d2.safe 0 = pad (recB []) → Tells (d2.flush.2.read 0) [] := fun h => by
    rw [hfl]; simp only; rw [read_rd hl, h]
    exact tells_rec [] (by simp) (by simp)
  rcases h with h | h | h
  · refine ⟨[], by simp, by simp, t0 h.1, by simp [inRoom], by rw [e0], by rw [e0]; exact hw, by rw [e0]; exact ok, by rw [e0], by rw [e0]; exact hl, by rw [e0]; exact hlen, by rw [e0]; exact h.1, .inl ⟨h, by rw [e0]; exact h.2⟩⟩
  · have hroom : inRoom d2 0 ps = ps := by
      apply List.ext_getElem?
      intro k
      cases hk : ps[k]? with
      | none =>
        rw [List.getElem?_eq_none_iff] at hk ⊢
        rw [inRoom_len]; exact hk
      | some p =>
        rw [inRoom_at d2 ps 0 k p hk, Nat.zero_add, read_rd hl, h.2.1 k p hk]
    have e1 : d2.redo ps = d2.through (home ps) [] := by
      have : ps.length ≠ 0 := by omega
      simp only [Dk.redo, hfl, if_true, hw.2, this, hroom]
      simp
    obtain ⟨w1, w2⟩ := Dk.through_well hw (home ps) []
    have hhm : ∀ x ∈ home ps, x.1 < d2.safe.length := fun x hx => by
      obtain ⟨p, hp, rfl⟩ := home_mem hx
      rw [hlen]; exact hb4 p hp
    rcases Dk.through_cases d2 (home ps) [] ok (by omega) hl (by omega) hhm with ⟨g1, _⟩ | ⟨g1, _⟩ | ⟨g1, g2, g2f, g3, g4⟩
    · rw [w1] at g1; cases g1
    · rw [w1] at g1; cases g1
    · have hlen2 : (lay d2.safe (padT (home ps))).length = S.length := by rw [lay_len, hlen]
      have h1 := (in_one (K := [(0, pad (recB []))]) (s := pad (recB [])) (fun x hx => by simpa using hx)).2
      obtain ⟨k0, k1, k9⟩ := in_home (ps := ps) (K := padT (home ps)) fun x hx => hx
      refine ⟨ps, hp, fun p hp => by rw [hlen]; exact hb4 p hp, ?_, ?_, by rw [e1]; exact w1, by rw [e1]; exact w2, by rw [e1]; exact g2.ok, by rw [e1]; exact g2f, by rw [e1]; exact g4, by rw [e1, g2.len, hlen], ?_, .inr fun i hi => ?_⟩
      · rw [hfl]; simp only; rw [read_rd hl, h.1]
        exact tells_rec ps hp fun p hp => by have := hb4 p hp; omega
      · rw [hfl]; simp only; rw [hroom]
        exact fun p hp => Nat.le_of_eq (hz p hp)
      · rw [e1, g3, rd_lay_some (s := pad (recB [])) (by omega) (by simp [lastOf])]
        exact rec_nil
      · rw [e1, g3, rd_lay_none (by omega) (by rw [show 90 + i = 1 + (89 + i) by omega]; exact h1 _)]
        cases hl2 : lastOf ps i with
        | none => rw [rd_lay_none (by omega) (k9 i hl2), h.2.2 i hi hl2]; rfl
        | some s =>
          obtain ⟨x, hx, e⟩ := lastOf_mem ps i s hl2
          have hs := hz x hx
          rw [e] at hs
          rw [rd_lay_some (s := s) (by omega) (by rw [lastOf_padT, lastOf_home, hl2]; simp [pad_full hs]), blk_full hs]
          rfl
  · refine ⟨[], by simp, by simp, t0 h.1, by simp [inRoom], by rw [e0], by rw [e0]; exact hw, by rw [e0]; exact ok, by rw [e0], by rw [e0]; exact hl, by rw [e0]; exact hlen, by rw [e0]; exact h.1, .inr (by rw [e0]; exact h.2)⟩
end Go.Proofs.Ytcbindgpbeaebaa
