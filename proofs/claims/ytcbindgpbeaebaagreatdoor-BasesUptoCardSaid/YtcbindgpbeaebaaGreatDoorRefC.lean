import Derived.Test.YtcbindgpbeaebaaGreatDoorRefE
import Derived.Test.YtcbindgpbeaebaaGreatDoorPureB
namespace Go.Proofs.YtcbindgpbeaebaaGreatDoor
open Go.RowKit Go.Deep
attribute [local go_sem ↓] Go.wp_at_zero Go.wp_at_succ

/-- Where a list lies: as it was, or in new memory. -/
def Frs (w : World) (v v' : Value) : Prop := ∀ g, v'.ownBlock = some g → v.ownBlock = some g ∨ w.heap.size ≤ g
theorem Frs.refl (w : World) (v : Value) : Frs w v v := fun _ h => .inl h
theorem Frs.new {w w' : World} {v v' : Value} {e : TypeId} {size n : Nat} {xs : List Value} (h : w'.ownsRow w.heap.size e size v' n xs) : Frs w v v' := fun g hg => .inr (h.lt g hg).1

theorem conv_n (w : World) (n : Nat) : (convert 207 9 (.slice (some ⟨w.heap.size, 0, none⟩) n n)).run Tryz.prog (w.alloc (.cells (madeCells #[.int .u8 0] n) 5)).drew = .ok (.string (zs n)) (w.alloc (.cells (madeCells #[.int .u8 0] n) 5)).drew := by
  have this := run_convert_bytes_back (P := Tryz.prog) (w.alloc (.cells (madeCells #[.int .u8 0] n) 5)).drew 207 9 5 ⟨w.heap.size, 0, none⟩ n (List.replicate n 0) Tryz.underlying207 Tryz.underlying5 Tryz.underlying9 (fun j hj => by
    have hh : (w.alloc (.cells (madeCells #[.int .u8 0] n) 5)).drew.heap[w.heap.size]? = some (.cells (madeCells #[.int .u8 0] n) 5) := heap_alloc_new w _
    rw [addr0, cell_of_row _ _ _ _ _ _ hh, ← Array.getElem?_toList, toList_madeCells_one]
    rw [List.length_replicate] at hj
    rw [List.getElem?_replicate, if_pos hj, List.getElem_replicate]
    rfl)
  rw [List.length_replicate] at this
  exact this

end Go.Proofs.YtcbindgpbeaebaaGreatDoor

namespace Go.Proofs.YtcbindgpbeaebaaGreatDoor
open Go.RowKit Go.Deep
attribute [local go_sem ↓] Go.wp_at_zero Go.wp_at_succ

/-- (Log).Done -/
def doneS (s : List (Nat × ByteArray)) (ps : List (Nat × ByteArray)) : List (Nat × ByteArray) := ps.foldl (fun s p => withR s p.1 p.2) s
def doneR (R : Rf) : Rf := { R with sure := doneS R.sure R.put, put := [] }
theorem doneS_snoc (s l : List (Nat × ByteArray)) (p : Nat × ByteArray) : doneS s (l ++ [p]) = withR (doneS s l) p.1 p.2 := by simp [doneS]
theorem doneS_len (l : List (Nat × ByteArray)) : ∀ s, (doneS s l).length ≤ s.length + l.length := by
  induction l with
  | nil => intro s; simp [doneS]
  | cons p r ih =>
    intro s
    have h1 := ih (withR s p.1 p.2)
    have h2 := filter_len s p.1
    have e : doneS s (p :: r) = doneS (withR s p.1 p.2) r := rfl
    rw [e]
    simp only [withR, List.length_cons] at h1 ⊢
    omega

end Go.Proofs.YtcbindgpbeaebaaGreatDoor

namespace Go.Proofs.YtcbindgpbeaebaaGreatDoor

/-- Whatever of what is late stays: nothing is done, or the record stands, or all is done. -/
def Out (S : List ByteArray) (ps : List (Nat × ByteArray)) (S2 : List ByteArray) : Prop := OutA S S2 ∨ OutB S ps S2 ∨ OutC S ps S2
def Pend (S : List ByteArray) (ps : List (Nat × ByteArray)) (d : Dk) : Prop := ∀ K : List (Nat × ByteArray), (∀ x ∈ K, x ∈ d.late) → Out S ps (lay d.safe K)
theorem Pend.crash {S : List ByteArray} {ps : List (Nat × ByteArray)} {d : Dk} (h : Pend S ps d) (ks : List Int) : Pend S ps (d.crash ks) := fun K hK => by
  have : K = [] := by
    cases K with
    | nil => rfl
    | cons x r => exact absurd (hK x (by simp)) (by simp [Dk.crash])
  subst this
  exact h (kept d.late ks) fun x hx => kept_mem _ _ x hx
theorem Pend.done {S : List ByteArray} {ps : List (Nat × ByteArray)} {d d' : Dk} (h : Pend S ps d) (hs : d'.safe = d.safe) (hl : d'.late = d.late) : Pend S ps d' := fun K hK => by
  rw [hs]; exact h K fun x hx => hl ▸ hK x hx
theorem Pend.none {S : List ByteArray} {ps : List (Nat × ByteArray)} {d : Dk} (h : Out S ps d.safe) (hl : d.late = []) : Pend S ps d := fun K hK => by
  have : K = [] := by
    cases K with
    | nil => rfl
    | cons x r => exact absurd (hK x (by simp)) (by simp [hl])
  subst this
  exact h

/-- What a Commit that failed leaves, whatever stays. -/
theorem commit_pend (d : Dk) (ps : List (Nat × ByteArray)) (ok : d.Ok) (hf : d.failed + 1 ≤ 9223372036854775806) (hl : d.late = []) (hN : 90 < d.safe.length) (hp0 : 0 < ps.length) (hp : ps.length ≤ 80) (hb4 : ∀ p ∈ ps, 90 + p.1 < d.safe.length) (hz : ∀ p ∈ ps, p.2.size = 256) (hclr : rd d.safe 0 = pad (recB [])) (h9 : (commitL d ps false).1 = 9) :
    Pend d.safe ps (commitL d ps false).2.1 := by
  have hp0' : ps.length ≠ 0 := by omega
  have hrm : ∀ x ∈ room 0 ps, x.1 < d.safe.length := fun x hx => by have := room_mem ps 0 x hx; omega
  rcases Dk.through_cases d (room 0 ps) ps ok (by omega) hl (by omega) hrm with ⟨h1, h2, h3, j, h4⟩ | ⟨h1, h2, h3, h4⟩ | ⟨h1, h2, h2f, h3, h4⟩
  · have e : commitL d ps false = (9, (d.through (room 0 ps) ps).2, true) := by simp [commitL, h1, hp0']
    rw [e]
    intro K hK
    simp only at hK ⊢
    rw [h3]
    rw [h4] at hK
    exact .inl (out1 hN hp hclr fun x hx => List.mem_of_mem_take (hK x hx))
  · have e : commitL d ps false = (9, (d.through (room 0 ps) ps).2, true) := by simp [commitL, h1, hp0']
    rw [e]
    intro K hK
    simp only at hK ⊢
    rw [h3]
    rcases out2 hN hp hz hclr (K := K) (fun x hx => by
      have hx := hK x hx
      rcases h4 with h4 | h4
      · rw [h4] at hx; simp at hx
      · rw [h4] at hx; simpa using hx) with h | h
    · exact .inl h
    · exact .inr (.inl h)
  · have hlen1 := h2.len
    have hhm : ∀ x ∈ home ps, x.1 < (d.through (room 0 ps) ps).2.safe.length := fun x hx => by
      obtain ⟨p, hp, rfl⟩ := home_mem hx
      rw [hlen1]; exact hb4 p hp
    rcases Dk.through_cases (d.through (room 0 ps) ps).2 (home ps) [] h2.ok (by omega) h4 (by omega) hhm with ⟨g1, g2, g3, j, g4⟩ | ⟨g1, g2, g3, g4⟩ | ⟨g1, g2, g2f, g3, g4⟩
    · have e : commitL d ps false = (9, ((d.through (room 0 ps) ps).2.through (home ps) []).2, true) := by simp [commitL, h1, g1, hp0']
      rw [e]
      intro K hK
      simp only at hK ⊢
      rw [g3, h3]
      rw [g4] at hK
      exact .inr (.inl (out3 hN hp hz fun x hx => List.mem_of_mem_take (hK x hx)))
    · have e : commitL d ps false = (9, ((d.through (room 0 ps) ps).2.through (home ps) []).2, true) := by simp [commitL, h1, g1, hp0']
      rw [e]
      intro K hK
      simp only at hK ⊢
      rw [g3, h3]
      exact .inr (out4 hN hp hz (K := K) fun x hx => by
        have hx := hK x hx
        rcases g4 with g4 | g4
        · rw [g4] at hx; simp at hx
        · rw [g4] at hx; simpa using hx)
    · have e : commitL d ps false = (0, ((d.through (room 0 ps) ps).2.through (home ps) []).2, false) := by simp [commitL, h1, g1, hp0']
      rw [e] at h9
      cases h9

/-- From the record on: some of the places are written. -/
theorem outB_home {S S2 : List ByteArray} {ps : List (Nat × ByteArray)} {K : List (Nat × ByteArray)} (hN : 90 < S.length) (hlen : S2.length = S.length) (hp : ps.length ≤ 80) (h : OutB S ps S2) (hK : ∀ x ∈ K, x ∈ padT (home ps)) : OutB S ps (lay S2 K) := by
  obtain ⟨a, b, c⟩ := h
  obtain ⟨h0, h1, h9⟩ := in_home hK
  refine ⟨by rw [rd_lay_none (by omega) h0]; exact a, fun k p hk => ?_, fun i hi hn => by rw [rd_lay_none (by omega) (h9 i hn)]; exact c i hi hn⟩
  have hk' : k < ps.length := (List.getElem?_eq_some_iff.1 hk).1
  rw [rd_lay_none (by omega) (h1 k (by omega))]; exact b k p hk
/-- All of them are. -/
theorem outB_all {S S2 : List ByteArray} {ps : List (Nat × ByteArray)} (hlen : S2.length = S.length) (hz : ∀ p ∈ ps, p.2.size = 256) (h : OutB S ps S2) : ∀ i, 90 + i < S.length → rd (lay S2 (padT (home ps))) (90 + i) = (lastOf ps i).getD (rd S (90 + i)) := fun i hi => by
  obtain ⟨_, _, h9⟩ := in_home (ps := ps) (K := padT (home ps)) fun x hx => hx
  cases hl : lastOf ps i with
  | none => rw [rd_lay_none (by omega) (h9 i hl), h.2.2 i hi hl]; rfl
  | some s =>
    obtain ⟨x, hx, e⟩ := lastOf_mem ps i s hl
    have hs := hz x hx
    rw [e] at hs
    rw [rd_lay_some (s := s) (by omega) (by rw [lastOf_padT, lastOf_home, hl]; simp [pad_full hs]), blk_full hs]
    rfl
theorem outB_clear {S S2 : List ByteArray} {ps : List (Nat × ByteArray)} {K : List (Nat × ByteArray)} (hN : 90 < S.length) (hlen : S2.length = S.length) (hp : ps.length ≤ 80) (hz : ∀ p ∈ ps, p.2.size = 256) (h : OutB S ps S2) (hK : ∀ x ∈ K, x = (0, pad (recB []))) : OutB S ps (lay (lay S2 (padT (home ps))) K) ∨ OutC S ps (lay (lay S2 (padT (home ps))) K) := by
  have hB := outB_home hN hlen hp h (K := padT (home ps)) fun x hx => hx
  have hA := outB_all hlen hz h
  have hlen2 : (lay S2 (padT (home ps))).length = S.length := by rw [lay_len, hlen]
  obtain ⟨h0, h1⟩ := in_one hK
  have h9 : ∀ i, 90 + i < S.length → rd (lay (lay S2 (padT (home ps))) K) (90 + i) = rd (lay S2 (padT (home ps))) (90 + i) := fun i hi =>
    rd_lay_none (by omega) (by rw [show 90 + i = 1 + (89 + i) by omega]; exact h1 _)
  rcases h0 with h0 | h0
  · refine .inl ⟨by rw [rd_lay_none (by omega) h0]; exact hB.1, fun k p hk => ?_, fun i hi hn => by rw [h9 i hi]; exact hB.2.2 i hi hn⟩
    have hk' : k < ps.length := (List.getElem?_eq_some_iff.1 hk).1
    rw [rd_lay_none (by omega) (h1 k)]; exact hB.2.1 k p hk
  · exact .inr ⟨by rw [rd_lay_some (by omega) h0]; exact rec_nil, fun i hi => by rw [h9 i hi]; exact hA i hi⟩

/-- What Open makes of a disk of which anything may have stayed, whatever fails. -/
theorem redo_pend (d : Dk) (S : List ByteArray) (ps : List (Nat × ByteArray)) (ok : d.Ok) (hf : d.failed + 1 ≤ 9223372036854775806) (hlen : d.safe.length = S.length) (hN : 90 < S.length) (hp0 : 0 < ps.length) (hp : ps.length ≤ 80) (hb4 : ∀ p ∈ ps, 90 + p.1 < S.length) (hz : ∀ p ∈ ps, p.2.size = 256) (h : Pend S ps d) :
    ∃ psR, psR.length ≤ 80 ∧ (∀ p ∈ psR, 90 + p.1 < d.safe.length) ∧ (d.flush.1 = true → Tells (d.flush.2.read 0) psR) ∧ (∀ p ∈ inRoom d.flush.2 0 psR, p.2.size ≤ 256) ∧ (d.redo psR).2.Ok ∧ (d.redo psR).2.failed ≤ d.failed + 1 ∧ (d.redo psR).2.safe.length = S.length ∧ (d.redo psR).2.late.length ≤ max 80 d.late.length ∧
      (((d.redo psR).1 = false ∧ Pend S ps (d.redo psR).2 ∧ (d.redo psR).2.failed = d.failed + 1) ∨ ((d.redo psR).1 = false ∧ Pend S ps (d.redo psR).2 ∧ (d.redo psR).2.life = 0) ∨
       ((d.redo psR).1 = true ∧ (d.redo psR).2.late = [] ∧ (OutA S (d.redo psR).2.safe ∨ OutC S ps (d.redo psR).2.safe))) := by
  cases hfl : d.flush.1 with
  | false =>
    have e : d.redo [] = (false, d.flush.2) := by simp [Dk.redo, hfl]
    obtain ⟨a, b, c⟩ := Dk.flush_fail hfl ok (by omega)
    refine ⟨[], by simp, by simp, fun e => (by cases e), by simp [inRoom], ?_⟩
    rw [e]
    exact ⟨a.ok, a.f, by rw [a.len, hlen], by simp only; rw [c]; omega, .inl ⟨rfl, h.done b c, a.fe⟩⟩
  | true =>
    obtain ⟨ok1, hs1, hl1⟩ := Dk.flush_ok hfl ok
    have hf1 := Dk.flush_f hfl ok
    have hlen1 : d.flush.2.safe.length = S.length := by rw [hs1, lay_len, hlen]
    have out : Out S ps d.flush.2.safe := by rw [hs1]; exact h d.late fun x hx => hx
    have hn := ok1.n
    have quiet : (OutA S d.flush.2.safe ∨ OutC S ps d.flush.2.safe) → rd d.flush.2.safe 0 = pad (recB []) → ∃ psR, psR.length ≤ 80 ∧ (∀ p ∈ psR, 90 + p.1 < d.safe.length) ∧ (true = true → Tells (d.flush.2.read 0) psR) ∧ (∀ p ∈ inRoom d.flush.2 0 psR, p.2.size ≤ 256) ∧ (d.redo psR).2.Ok ∧ (d.redo psR).2.failed ≤ d.failed + 1 ∧ (d.redo psR).2.safe.length = S.length ∧ (d.redo psR).2.late.length ≤ max 80 d.late.length ∧
        (((d.redo psR).1 = false ∧ Pend S ps (d.redo psR).2 ∧ (d.redo psR).2.failed = d.failed + 1) ∨ ((d.redo psR).1 = false ∧ Pend S ps (d.redo psR).2 ∧ (d.redo psR).2.life = 0) ∨
         ((d.redo psR).1 = true ∧ (d.redo psR).2.late = [] ∧ (OutA S (d.redo psR).2.safe ∨ OutC S ps (d.redo psR).2.safe))) := fun hAC h0 => by
      have t0 : Tells (d.flush.2.read 0) [] := by
        rw [read_rd hl1, h0]
        exact tells_rec [] (by simp) (by simp)
      by_cases hd : d.flush.2.life = 0
      · have e : d.redo [] = (false, d.flush.2) := by simp [Dk.redo, hfl, hd]
        refine ⟨[], by simp, by simp, fun _ => t0, by simp [inRoom], ?_⟩
        rw [e]
        exact ⟨ok1, by simp only; omega, hlen1, by simp only; rw [hl1]; simp, .inr (.inl ⟨rfl, Pend.none (hAC.elim .inl fun h => .inr (.inr h)) hl1, hd⟩)⟩
      · have e : d.redo [] = (true, d.flush.2) := by simp [Dk.redo, hfl, hd]
        refine ⟨[], by simp, by simp, fun _ => t0, by simp [inRoom], ?_⟩
        rw [e]
        exact ⟨ok1, by simp only; omega, hlen1, by simp only; rw [hl1]; simp, .inr (.inr ⟨rfl, hl1, hAC⟩)⟩
    rcases out with hA | hB | hC
    · exact quiet (.inl hA) hA.1
    · have hroom : inRoom d.flush.2 0 ps = ps := by
        apply List.ext_getElem?
        intro k
        cases hk : ps[k]? with
        | none =>
          rw [List.getElem?_eq_none_iff] at hk ⊢
          rw [inRoom_len]; exact hk
        | some p =>
          rw [inRoom_at d.flush.2 ps 0 k p hk, Nat.zero_add, read_rd hl1, hB.2.1 k p hk]
      have t1 : Tells (d.flush.2.read 0) ps := by
        rw [read_rd hl1, hB.1]
        exact tells_rec ps hp fun p hp => by have := hb4 p hp; omega
      refine ⟨ps, hp, fun p hp => by rw [hlen]; exact hb4 p hp, fun _ => t1, by rw [hroom]; exact fun p hp => Nat.le_of_eq (hz p hp), ?_⟩
      by_cases hd : d.flush.2.life = 0
      · have e : d.redo ps = (false, d.flush.2) := by simp [Dk.redo, hfl, hd]
        rw [e]
        exact ⟨ok1, by simp only; omega, hlen1, by simp only; rw [hl1]; simp, .inr (.inl ⟨rfl, Pend.none (.inr (.inl hB)) hl1, hd⟩)⟩
      · have hp0' : ps.length ≠ 0 := by omega
        have e : d.redo ps = d.flush.2.through (home ps) [] := by
          simp only [Dk.redo, hfl, if_true, hd, if_false, hp0', hroom]
        rw [e]
        have hhm : ∀ x ∈ home ps, x.1 < d.flush.2.safe.length := fun x hx => by
          obtain ⟨p, hp, rfl⟩ := home_mem hx
          rw [hlen1]; exact hb4 p hp
        have hhl : (padT (home ps)).length ≤ 80 := by simp [padT, home_len]; omega
        rcases Dk.through_cases d.flush.2 (home ps) [] ok1 (by omega) hl1 (by omega) hhm with ⟨g1, g2, g3, j, g4⟩ | ⟨g1, g2, g3, g4⟩ | ⟨g1, g2, g2f, g3, g4⟩
        · refine ⟨g2.ok, by have := g2.f; omega, by rw [g2.len, hlen1], by rw [g4, List.length_take]; omega, .inl ⟨g1, fun K hK => ?_, by have := g2.fe; omega⟩⟩
          rw [g3]
          rw [g4] at hK
          exact .inr (.inl (outB_home hN hlen1 hp hB fun x hx => List.mem_of_mem_take (hK x hx)))
        · refine ⟨g2.ok, by have := g2.f; omega, by rw [g2.len, hlen1], by rcases g4 with g4 | g4 <;> rw [g4] <;> simp <;> omega, .inl ⟨g1, fun K hK => ?_, by have := g2.fe; omega⟩⟩
          rw [g3]
          exact .inr (outB_clear hN hlen1 hp hz hB fun x hx => by
            have hx := hK x hx
            rcases g4 with g4 | g4
            · rw [g4] at hx; simp at hx
            · rw [g4] at hx; simpa using hx)
        · refine ⟨g2.ok, by omega, by rw [g2.len, hlen1], by rw [g4]; simp, .inr (.inr ⟨g1, g4, .inr ?_⟩)⟩
          rw [g3]
          have hlen2 : (lay d.flush.2.safe (padT (home ps))).length = S.length := by rw [lay_len, hlen1]
          have h1 := (in_one (K := [(0, pad (recB []))]) (s := pad (recB [])) (fun x hx => by simpa using hx)).2
          refine ⟨by rw [rd_lay_some (s := pad (recB [])) (by omega) (by simp [lastOf])]; exact rec_nil, fun i hi => ?_⟩
          rw [rd_lay_none (by omega) (by rw [show 90 + i = 1 + (89 + i) by omega]; exact h1 _)]
          exact outB_all hlen1 hz hB i hi
    · exact quiet (.inr hC) hC.1
end Go.Proofs.YtcbindgpbeaebaaGreatDoor

namespace Go.Proofs.YtcbindgpbeaebaaGreatDoor

/-- Open, where nothing stands out: it leaves the disk as it was, whatever fails. -/
theorem redo_quiet (d : Dk) (S : List ByteArray) (ok : d.Ok) (hf : d.failed + 1 ≤ 9223372036854775806) (hl : d.late = []) (h : OutA S d.safe) :
    (d.flush.1 = true → Tells (d.flush.2.read 0) []) ∧ (d.redo []).2.Ok ∧ (d.redo []).2.failed ≤ d.failed + 1 ∧ (d.redo []).2.safe = d.safe ∧ (d.redo []).2.late = [] ∧
      (((d.redo []).1 = false ∧ (d.redo []).2.failed = d.failed + 1) ∨ ((d.redo []).1 = false ∧ (d.redo []).2.life = 0) ∨ ((d.redo []).1 = true ∧ (d.redo []).2.failed = d.failed ∧ (d.redo []).2.life ≠ 0)) := by
  cases hfl : d.flush.1 with
  | false =>
    have e : d.redo [] = (false, d.flush.2) := by simp [Dk.redo, hfl]
    obtain ⟨a, b, c⟩ := Dk.flush_fail hfl ok hf
    refine ⟨fun e => (by cases e), ?_⟩
    rw [e]
    exact ⟨a.ok, a.f, b, by simp only; rw [c, hl], .inl ⟨rfl, a.fe⟩⟩
  | true =>
    obtain ⟨ok1, hs1, hl1⟩ := Dk.flush_ok hfl ok
    have hf1 := Dk.flush_f hfl ok
    have hs2 : d.flush.2.safe = d.safe := by rw [hs1, hl]; rfl
    refine ⟨fun _ => ?_, ?_⟩
    · rw [read_rd hl1, hs2, h.1]
      exact tells_rec [] (by simp) (by simp)
    · by_cases hd : d.flush.2.life = 0
      · have e : d.redo [] = (false, d.flush.2) := by simp [Dk.redo, hfl, hd]
        rw [e]
        exact ⟨ok1, by simp only; omega, hs2, hl1, .inr (.inl ⟨rfl, hd⟩)⟩
      · have e : d.redo [] = (true, d.flush.2) := by simp [Dk.redo, hfl, hd]
        rw [e]
        exact ⟨ok1, by simp only; omega, hs2, hl1, .inr (.inr ⟨rfl, hf1, hd⟩)⟩

/-- What is on the disk between two steps of the law: what is sure, or one of two. -/
def Stands (S : List ByteArray) (pend : Option (List (Nat × ByteArray))) (d : Dk) : Prop := match pend with
  | none => d.late = [] ∧ OutA S d.safe
  | some ps => Pend S ps d ∧ 0 < ps.length ∧ ps.length ≤ 80 ∧ (∀ p ∈ ps, 90 + p.1 < S.length) ∧ ∀ p ∈ ps, p.2.size = 256
theorem Stands.cap {S : List ByteArray} {pend : Option (List (Nat × ByteArray))} {d : Dk} (h : Stands S pend d) (c : Nat) : Stands S pend { d with cap := c } := by
  cases pend with
  | none => exact h
  | some ps => exact ⟨fun K hK => h.1 K hK, h.2⟩
theorem Stands.life {S : List ByteArray} {pend : Option (List (Nat × ByteArray))} {d : Dk} (h : Stands S pend d) (x : Int) : Stands S pend { d with life := x } := by
  cases pend with
  | none => exact h
  | some ps => exact ⟨fun K hK => h.1 K hK, h.2⟩
theorem Stands.wait {S : List ByteArray} {pend : Option (List (Nat × ByteArray))} {d : Dk} (h : Stands S pend d) (x : Int) : Stands S pend { d with wait := x } := by
  cases pend with
  | none => exact h
  | some ps => exact ⟨fun K hK => h.1 K hK, h.2⟩
theorem Stands.crash {S : List ByteArray} {pend : Option (List (Nat × ByteArray))} {d : Dk} (h : Stands S pend d) (ks : List Int) : Stands S pend (d.crash ks) := by
  cases pend with
  | none =>
    obtain ⟨hl, ha⟩ := h
    refine ⟨rfl, ?_⟩
    have : kept d.late ks = [] := by rw [hl]; cases ks <;> rfl
    have e : (d.crash ks).safe = d.safe := by simp [Dk.crash, this, lay]
    rw [e]; exact ha
  | some ps => exact ⟨h.1.crash ks, h.2⟩

/-- What a log that is opened holds. -/
def Holds (S : List ByteArray) (pend : Option (List (Nat × ByteArray))) (d : Dk) : Prop := d.late = [] ∧ (OutA S d.safe ∨ ∃ ps, pend = some ps ∧ OutC S ps d.safe)

/-- Open, of whatever stands: it keeps that, or holds one of the two. -/
theorem open_stands (d : Dk) (S : List ByteArray) (pend : Option (List (Nat × ByteArray))) (ok : d.Ok) (hf : d.failed + 1 ≤ 9223372036854775806) (hlen : d.safe.length = S.length) (hN : 90 < S.length) (h : Stands S pend d) :
    ∃ psR, psR.length ≤ 80 ∧ (∀ p ∈ psR, 90 + p.1 < d.safe.length) ∧ (d.flush.1 = true → Tells (d.flush.2.read 0) psR) ∧ (∀ p ∈ inRoom d.flush.2 0 psR, p.2.size ≤ 256) ∧ (d.redo psR).2.Ok ∧ (d.redo psR).2.failed ≤ d.failed + 1 ∧ (d.redo psR).2.safe.length = S.length ∧ (d.redo psR).2.late.length ≤ max 80 d.late.length ∧
      (((d.redo psR).1 = false ∧ Stands S pend (d.redo psR).2 ∧ (d.failed < (d.redo psR).2.failed ∨ (d.redo psR).2.life = 0)) ∨ ((d.redo psR).1 = true ∧ Holds S pend (d.redo psR).2)) := by
  cases pend with
  | none =>
    obtain ⟨hl, ha⟩ := h
    obtain ⟨q1, q2, q3, q4, q5, q6⟩ := redo_quiet d S ok (by omega) hl ha
    refine ⟨[], by simp, by simp, q1, by simp [inRoom], q2, q3, by rw [q4, hlen], by rw [q5]; simp, ?_⟩
    have hst : Stands S none (d.redo []).2 := ⟨q5, by rw [q4]; exact ha⟩
    rcases q6 with ⟨a, b⟩ | ⟨a, b⟩ | ⟨a, _, _⟩
    · exact .inl ⟨a, hst, .inl (by omega)⟩
    · exact .inl ⟨a, hst, .inr b⟩
    · exact .inr ⟨a, q5, .inl (by rw [q4]; exact ha)⟩
  | some ps =>
    obtain ⟨hP, p0, p80, pb, pz⟩ := h
    obtain ⟨psR, r1, r2, r3, r4, r5, r6, r7, r8, r9⟩ := redo_pend d S ps ok hf hlen hN p0 p80 pb pz hP
    refine ⟨psR, r1, r2, r3, r4, r5, r6, r7, r8, ?_⟩
    rcases r9 with ⟨a, b, c⟩ | ⟨a, b, c⟩ | ⟨a, b, c⟩
    · exact .inl ⟨a, ⟨b, p0, p80, pb, pz⟩, .inl (by omega)⟩
    · exact .inl ⟨a, ⟨b, p0, p80, pb, pz⟩, .inr c⟩
    · exact .inr ⟨a, b, c.elim .inl fun h => .inr ⟨ps, rfl, h⟩⟩

/-- Behind a crash it holds the same, and Open finds it. -/
theorem holds_crash (d : Dk) (S : List ByteArray) (pend : Option (List (Nat × ByteArray))) (ok : d.Ok) (c : Nat) (h : Holds S pend d) :
    (({ d with cap := c } : Dk).crash []).Ok ∧ (({ d with cap := c } : Dk).crash []).late = [] ∧ (({ d with cap := c } : Dk).crash []).safe = d.safe ∧ ((({ d with cap := c } : Dk).crash []).redo []) = (true, ({ d with cap := c } : Dk).crash []) ∧ ((({ d with cap := c } : Dk).crash []).flush.1 = true → Tells ((({ d with cap := c } : Dk).crash []).flush.2.read 0) []) := by
  obtain ⟨hl, ho⟩ := h
  have hk : kept d.late [] = [] := by rw [hl]; rfl
  have hs : (({ d with cap := c } : Dk).crash []).safe = d.safe := by simp [Dk.crash, hk, lay]
  have hw : (({ d with cap := c } : Dk).crash []).Well := ⟨rfl, rfl⟩
  have hfl := Dk.flush_none hw rfl
  have h0 : rd d.safe 0 = pad (recB []) := by
    rcases ho with ho | ⟨ps, _, ho⟩
    · exact ho.1
    · exact ho.1
  refine ⟨⟨by simp [Dk.crash], by simp [Dk.crash], by simp [Dk.crash], by simp [Dk.crash], ok.f0, ok.f1, by rw [hs]; exact ok.n, by simp [Dk.crash]⟩, rfl, hs, ?_, fun _ => ?_⟩
  · simp only [Dk.redo, hfl, if_true]
    simp [hw.2]
  · rw [hfl]
    simp only
    rw [read_rd rfl, hs, h0]
    exact tells_rec [] (by simp) (by simp)
end Go.Proofs.YtcbindgpbeaebaaGreatDoor
