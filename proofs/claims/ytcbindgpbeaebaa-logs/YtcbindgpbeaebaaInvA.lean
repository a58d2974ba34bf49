import Derived.Test.YtcbindgpbeaebaaPureJ
namespace Go.Proofs.Ytcbindgpbeaebaa
open Go.RowKit Go.Deep

/-- What stands between two steps of the law, on a disk that is great enough. -/
structure Inv (w : World) (B bw N : Nat) (f : Int) (bd bs : Nat) (xv lv : Value) (d : Dk) (R R2 : Rf) (sv rv sv2 rv2 : Value) (tw : Bool) (S : List ByteArray) (pend : Option (List (Nat × ByteArray))) : Prop where
  disk : DAt w bd bs lv d
  own : w.heap[bw]? = some (.cells (wcells bd xv R R2 sv rv sv2 rv2 tw tw) 32 (0, 0))
  r1 : RAt B w R sv rv
  r2 : RAt B w R2 sv2 rv2
  hB : B ≤ w.heap.size
  bw0 : B ≤ bw
  bd0 : B ≤ bd
  bs0 : B ≤ bs
  lv0 : ∀ g, lv.ownBlock = some g → B ≤ g
  ok : d.Ok
  fl : d.failed ≤ f
  n : d.safe.length = N
  sn : S.length = N
  late : d.late.length ≤ 200
  st : Stands S pend d
  g1 : Good N R
  g2 : Good N R2
  cont : ∀ i : Nat, 90 + i < N → rd S (90 + i) = sureR R (i : Int)
  two : (tw = false → pend = none) ∧ ∀ ps, pend = some ps → tw = true ∧ ∀ i : Nat, 90 + i < N → sureR R2 (i : Int) = (lastOf ps i).getD (sureR R (i : Int))
  log : xv = .pointer none ∨ ∃ bl pv ps, xv = .pointer (some ⟨bl, 0, none⟩) ∧ Sys w B bl bd bs pv lv ps tw d ∧ RelP ps R.put ∧ ps.length ≤ 80 ∧ ∀ p ∈ ps, 90 + p.1 < N ∧ p.2.size = 256
def InvE (w : World) (B bw N : Nat) (f : Int) : Prop := ∃ bd bs xv lv d R R2 sv rv sv2 rv2 tw S pend, Inv w B bw N f bd bs xv lv d R R2 sv rv sv2 rv2 tw S pend

theorem opens_inv (w : World) (B bw N : Nat) (f : Int) (h : InvE w B bw N f) (hf : f + 1 ≤ 9223372036854775806) (hN : 90 < N) :
    Calls Try.prog 19 #[.pointer (some ⟨bw, 0, none⟩)] w fun e w' => e = .returned (.bool true) ∧ InvE w' B bw N (f + 1) ∧ Below B w w' := by
  obtain ⟨bd, bs, xv, lv, d, R, R2, sv, rv, sv2, rv2, tw, S, pend, h⟩ := h
  have hn := h.n
  have hsn := h.sn
  have hfl := h.fl
  have hl2 := h.late
  obtain ⟨psR, a1, a2, a3, a4, a5, a6, a7, a8, a9⟩ := open_stands d S pend h.ok (by omega) (by omega) (by omega) h.st
  have fc : ∀ c, ({ d with cap := c } : Dk).flush = (d.flush.1, { d.flush.2 with cap := c }) := fun c => Dk.flush_wc d c
  have rc : ∀ c, ({ d with cap := c } : Dk).redo psR = ((d.redo psR).1, { (d.redo psR).2 with cap := c }) := fun c => Dk.redo_wc d c psR
  have t3 : ∀ c, (({ d with cap := c } : Dk).flush.1 = true → Tells (({ d with cap := c } : Dk).flush.2.read 0) psR) := fun c => by rw [fc c]; exact a3
  have t4 : ∀ c, (∀ p ∈ inRoom ({ d with cap := c } : Dk).flush.2 0 psR, p.2.size ≤ 256) := fun c => by rw [fc c]; simp only [inRoom_cap]; exact a4
  rcases a9 with ⟨q1, q2, q3⟩ | ⟨q1, q2, q3⟩
  · refine (opens_fail w B bw bd bs xv lv d R R2 sv rv sv2 rv2 tw tw (fun D => D.Ok ∧ D.failed ≤ d.failed + 1 ∧ D.safe.length = N ∧ D.late.length ≤ 200 ∧ Stands S pend D) h.disk h.own h.hB h.bw0 h.r1 h.r2 h.ok (by omega) (by omega) ?_).mono ?_
    · intro c
      refine ⟨psR, a1, a2, t3 c, t4 c, ?_⟩
      rw [rc c]
      exact ⟨q1, q3, by simp only; omega, a5.cap c, a6, by simp only; omega, by simp only; omega, q2.cap c⟩
    · rintro e w' ⟨D, bd', bs', lv', rfl, ⟨x1, x2, x3, x4, x5⟩, hd, hw, r1, r2, hb, b1, b2, b3⟩
      refine ⟨rfl, ⟨bd', bs', .pointer none, lv', D, R, R2, sv, rv, sv2, rv2, tw, S, pend, ?_⟩, hb⟩
      exact { disk := hd, own := hw, r1 := r1, r2 := r2, hB := Nat.le_trans h.hB hb.size, bw0 := h.bw0, bd0 := b1, bs0 := b2, lv0 := b3, ok := x1, fl := by omega, n := x3, sn := hsn, late := x4, st := x5, g1 := h.g1, g2 := h.g2, cont := h.cont, two := h.two, log := .inl rfl }
  · have hlife : (d.life == 0) = false := by
      cases hz : (d.life == 0) with
      | false => rfl
      | true =>
        have hz : d.life = 0 := by simpa using hz
        have hc : d.changes.1 = false := by simp [Dk.changes, hz]
        have hff : d.flush.1 = false := by simp [Dk.flush, hc]
        simp [Dk.redo, hff] at q1
    have hrd : ∀ i, (d.redo psR).2.read i = rd (d.redo psR).2.safe i := fun i => read_rd q2 i
    have hclr : rd (d.redo psR).2.safe 0 = pad (recB []) := by
      rcases q3 with q3 | ⟨_, _, q3⟩
      · exact q3.1
      · exact q3.1
    have hsame : SameB (d.redo psR).2 R ∨ (tw = true ∧ SameB (d.redo psR).2 R2) := by
      rcases q3 with q3 | ⟨ps, hp, q3⟩
      · exact .inl fun i hi => by rw [hrd, q3.2 i (by omega)]; exact h.cont i (by omega)
      · obtain ⟨e1, e2⟩ := h.two.2 ps hp
        exact .inr ⟨e1, fun i hi => by rw [hrd, q3.2 i (by omega), e2 i (by omega), h.cont i (by omega)]⟩
    refine (opens_ok w B bw bd bs xv lv d R R2 sv rv sv2 rv2 tw tw (fun D => D.Ok ∧ D.failed ≤ d.failed + 1 ∧ D.safe.length = N ∧ D.late = [] ∧ rd D.safe 0 = pad (recB [])) h.disk h.own h.hB h.bw0 h.r1 h.r2 h.ok (by omega) (by omega) hlife ?_).mono ?_
    · intro c
      refine ⟨psR, a1, a2, t3 c, t4 c, ?_⟩
      rw [rc c]
      exact ⟨q1, a5.cap c, by simp only; omega, q2, hclr, hsame, a5.cap c, a6, by simp only; omega, q2, hclr⟩
    · rintro e w' ⟨D, bl', bd', bs', lv', Rn, svn, rfl, ⟨x1, x2, x3, x4, x5⟩, s', hk, hsm, hw, r1, r2, hb⟩
      have gn : Good N Rn := by
        rcases hk with rfl | ⟨_, rfl⟩
        · exact h.g1
        · exact h.g2
      refine ⟨rfl, ⟨bd', bs', .pointer (some ⟨bl', 0, none⟩), lv', D, { Rn with put := [] }, R2, svn, .slice none 0 0, sv2, rv2, false, D.safe, none, ?_⟩, hb⟩
      exact { disk := s'.disk, own := hw, r1 := r1, r2 := r2, hB := s'.base, bw0 := h.bw0, bd0 := s'.sep.bd0, bs0 := s'.sep.bs0, lv0 := s'.sep.bv0, ok := x1, fl := by omega, n := x3, sn := x3, late := by rw [x4]; simp, st := ⟨x4, x5, fun _ _ => rfl⟩, g1 := gn.drop, g2 := h.g2, cont := fun i hi => by rw [← read_rd x4, hsm i (by omega)]; rfl, two := ⟨fun _ => rfl, fun ps e => by cases e⟩, log := .inr ⟨bl', .slice none 0 0, [], rfl, s', RelP.nil, by simp, by simp⟩ }

theorem commits_inv (w : World) (B bw N : Nat) (f : Int) (bd bs bl : Nat) (lv : Value) (d : Dk) (R R2 : Rf) (sv rv sv2 rv2 : Value) (tw : Bool) (S : List ByteArray) (pend : Option (List (Nat × ByteArray))) (h : Inv w B bw N f bd bs (.pointer (some ⟨bl, 0, none⟩)) lv d R R2 sv rv sv2 rv2 tw S pend) (hf : f + 1 ≤ 9223372036854775806) (hN : 90 < N) :
    Calls Try.prog 26 #[.pointer (some ⟨bw, 0, none⟩)] w fun e w' => e = .returned (.bool true) ∧ InvE w' B bw N (f + 1) ∧ Below B w w' := by
  have hn := h.n
  have hn4 := h.ok.n
  have hsn := h.sn
  have hfl := h.fl
  have hl2 := h.late
  have gl := h.g1.len
  have gp := h.g1.lp
  rcases h.log with e | ⟨bl', pv, ps, e, s, rel, h80, hps⟩
  · cases e
  · have : bl' = bl := by simpa using e.symm
    subst this
    have hb4 : ∀ p ∈ ps, 90 + p.1 < d.safe.length := fun p hp => by have := (hps p hp).1; omega
    have hz : ∀ p ∈ ps, p.2.size = 256 := fun p hp => (hps p hp).2
    have hz' : ∀ p ∈ ps, p.2.size ≤ 256 := fun p hp => by have := (hps p hp).2; omega
    cases tw with
    | true =>
      refine (commits_broken w B bw bl' bd bs pv lv ps d R R2 sv rv sv2 rv2 true s h.own h.bw0 h.r1 h.r2 h.ok (by omega) (by omega) h80 hb4 hz' (by omega) (by omega) (by simp [commitL])).mono ?_
      rintro e w' ⟨lv', sv', rfl, s', hw, r1, r2, hb⟩
      refine ⟨rfl, ⟨bd, bs, .pointer (some ⟨bl', 0, none⟩), lv', d, { R with put := [] }, R2, sv', .slice none 0 0, sv2, rv2, true, S, pend, ?_⟩, hb⟩
      exact { disk := s'.disk, own := hw, r1 := r1, r2 := r2, hB := s'.base, bw0 := h.bw0, bd0 := h.bd0, bs0 := h.bs0, lv0 := s'.sep.bv0, ok := h.ok, fl := by omega, n := hn, sn := hsn, late := hl2, st := h.st, g1 := h.g1.drop, g2 := h.g2, cont := h.cont, two := h.two, log := .inr ⟨bl', .slice none 0 0, [], rfl, s', RelP.nil, by simp, by simp⟩ }
    | false =>
      have hpn := h.two.1 rfl
      have hst := h.st
      rw [hpn] at hst
      obtain ⟨hlate, hA⟩ := hst
      by_cases hp0 : R.put.length = 0
      · have hps0 : ps.length = 0 := by rw [rel.len]; exact hp0
        refine (commits_none w B bw bl' bd bs pv lv ps d R R2 sv rv sv2 rv2 false s h.own h.bw0 h.r1 h.r2 h.ok (by omega) (by omega) h80 hb4 hz' (by omega) (by omega) (by simp [commitL, hps0]) hp0).mono ?_
        rintro e w' ⟨lv', sv', rfl, s', hw, r1, r2, hb⟩
        refine ⟨rfl, ⟨bd, bs, .pointer (some ⟨bl', 0, none⟩), lv', d, { R with put := [] }, R2, sv', .slice none 0 0, sv2, rv2, false, S, pend, ?_⟩, hb⟩
        exact { disk := s'.disk, own := hw, r1 := r1, r2 := r2, hB := s'.base, bw0 := h.bw0, bd0 := h.bd0, bs0 := h.bs0, lv0 := s'.sep.bv0, ok := h.ok, fl := by omega, n := hn, sn := hsn, late := hl2, st := h.st, g1 := h.g1.drop, g2 := h.g2, cont := h.cont, two := h.two, log := .inr ⟨bl', .slice none 0 0, [], rfl, s', RelP.nil, by simp, by simp⟩ }
      · have hps0 : 0 < ps.length := by rw [rel.len]; omega
        have hcont : ∀ i : Nat, 90 + i < N → rd d.safe (90 + i) = sureR R (i : Int) := fun i hi => by rw [hA.2 i (by omega)]; exact h.cont i hi
        obtain ⟨c1, c2, c3, c4, _, c6⟩ := commit_crash d ps h.ok (by omega) hlate (by omega) hps0 h80 hb4 hz hA.1
        rcases c6 with ⟨k1, k2, _⟩ | ⟨k1, k2, k3, k4, k5⟩
        · have hpend := commit_pend d ps h.ok (by omega) hlate (by omega) hps0 h80 hb4 hz hA.1 k1
          refine (commits_fail w B bw bl' bd bs pv lv ps d R R2 sv rv sv2 rv2 false s h.own h.bw0 h.r1 h.ok (by omega) (by omega) h80 hb4 hz' (by omega) (by omega) (by omega) k1 k2 (commit_fe d ps h.ok (by omega) hlate (by omega) hps0 h80 hb4 k1)).mono ?_
          rintro e w' ⟨lv', sv', sv2', rfl, s', hw, r1, r2, hb⟩
          refine ⟨rfl, ⟨bd, bs, .pointer (some ⟨bl', 0, none⟩), lv', (commitL d ps false).2.1, { R with put := [] }, doneR R, sv', .slice none 0 0, sv2', .slice none 0 0, true, d.safe, some ps, ?_⟩, hb⟩
          exact { disk := s'.disk, own := hw, r1 := r1, r2 := r2, hB := s'.base, bw0 := h.bw0, bd0 := h.bd0, bs0 := h.bs0, lv0 := s'.sep.bv0, ok := c1, fl := by omega, n := by omega, sn := hn, late := by omega, st := ⟨hpend, hps0, h80, hb4, hz⟩, g1 := h.g1.drop, g2 := h.g1.done, cont := hcont, two := ⟨fun e => (by cases e), fun qs e => by (cases e; exact ⟨rfl, fun i _ => sure_done R ps rel i⟩)⟩, log := .inr ⟨bl', .slice none 0 0, [], rfl, s', RelP.nil, by simp, by simp⟩ }
        · have hlf : (d.life == 0) = false := by
            have := commit_dead k1 hps0
            simpa using this
          refine (commits_ok w B bw bl' bd bs pv lv ps d R R2 sv rv sv2 rv2 false s h.own h.bw0 h.r1 h.r2 h.ok (by omega) (by omega) h80 hb4 hz' (by omega) (by omega) (by omega) k1 k2 hlf).mono ?_
          rintro e w' ⟨lv', sv', rfl, s', hw, r1, r2, hb⟩
          refine ⟨rfl, ⟨bd, bs, .pointer (some ⟨bl', 0, none⟩), lv', (commitL d ps false).2.1, doneR R, R2, sv', .slice none 0 0, sv2, rv2, false, (commitL d ps false).2.1.safe, none, ?_⟩, hb⟩
          exact { disk := s'.disk, own := hw, r1 := r1, r2 := r2, hB := s'.base, bw0 := h.bw0, bd0 := h.bd0, bs0 := h.bs0, lv0 := s'.sep.bv0, ok := c1, fl := by omega, n := by omega, sn := by omega, late := by omega, st := ⟨k3, k5.1, fun _ _ => rfl⟩, g1 := h.g1.done, g2 := h.g2, cont := fun i hi => by rw [k5.2 i (by omega), hcont i hi]; exact (sure_done R ps rel i).symm, two := ⟨fun _ => rfl, fun qs e => by cases e⟩, log := .inr ⟨bl', .slice none 0 0, [], rfl, s', RelP.nil, by simp, by simp⟩ }
end Go.Proofs.Ytcbindgpbeaebaa
