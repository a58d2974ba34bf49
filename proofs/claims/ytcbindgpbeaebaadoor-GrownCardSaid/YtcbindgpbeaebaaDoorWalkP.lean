import Derived.Test.YtcbindgpbeaebaaDoorWalkO
namespace Go.Proofs.YtcbindgpbeaebaaDoor
open Go.RowKit Go.Deep
attribute [local go_sem ↓] Go.wp_at_zero Go.wp_at_succ

/-- What stands behind all that has gone well. -/
theorem Dk.through_ok {d : Dk} {T ps : List (Nat × ByteArray)} (h : (d.through T ps).1 = true) (ok : d.Ok) (hs : 0 < d.safe.length) (hT : ∀ x ∈ T, x.1 < d.safe.length) :
    (d.through T ps).2.Ok ∧ (d.through T ps).2.late = [] ∧ (d.through T ps).2.safe = lay (lay d.safe (d.late ++ T.map fun x => (x.1, pad x.2))) [(0, pad (recB ps))] := by
  cases hw : (d.writes T).1
  · simp [Dk.through, hw] at h
  · obtain ⟨ok1, hs1, hl1⟩ := Dk.writes_ok T d hw ok hT
    cases hf : (d.writes T).2.flush.1
    · simp [Dk.through, hw, hf] at h
    · obtain ⟨ok2, hs2, hl2⟩ := Dk.flush_ok hf ok1
      have e : d.through T ps = (d.writes T).2.flush.2.setRec ps := by simp [Dk.through, hw, hf]
      rw [e] at h ⊢
      cases hr : ((d.writes T).2.flush.2.write 0 (recB ps)).1
      · simp [Dk.setRec, hr] at h
      · have e2 : (d.writes T).2.flush.2.setRec ps = ((d.writes T).2.flush.2.write 0 (recB ps)).2.flush := by simp [Dk.setRec, hr]
        rw [e2] at h ⊢
        obtain ⟨ok3, hs3, hl3⟩ := Dk.write_ok hr ok2 (by rw [hs2, lay_len, hs1]; exact hs)
        obtain ⟨ok4, hs4, hl4⟩ := Dk.flush_ok h ok3
        refine ⟨ok4, hl4, ?_⟩
        rw [hs4, hs3, hl3, hs2, hl2, hs1, hl1]
        rfl

/-- (*Log).Commit: the answer, the disk, whether the log is broken. -/
def commitL (d : Dk) (ps : List (Nat × ByteArray)) (br : Bool) : Int × Dk × Bool :=
  if br then (9, d, true)
  else if ps.length = 0 then (0, d, false)
  else if (d.through (room 0 ps) ps).1 then
    (if ((d.through (room 0 ps) ps).2.through (home ps) []).1 then (0, ((d.through (room 0 ps) ps).2.through (home ps) []).2, false) else (9, ((d.through (room 0 ps) ps).2.through (home ps) []).2, true))
  else (9, (d.through (room 0 ps) ps).2, true)

theorem Sys.setBroken {w : World} {B bl bd bs : Nat} {pv lv : Value} {ps : List (Nat × ByteArray)} {br : Bool} {d : Dk} (s : Sys w B bl bd bs pv lv ps br d) (b : Bool) :
    Sys (w.setCell ⟨bl, 2, none⟩ (.bool b)) B bl bd bs pv lv ps b d ∧ Below B w (w.setCell ⟨bl, 2, none⟩ (.bool b)) :=
  s.ofLog (s.log.setBroken b) ((DStep.refl _ _ _ _).setOwn _ _)

set_option maxRecDepth 100000 in
set_option maxHeartbeats 3200000 in
theorem commit_any (w : World) (B bl bd bs : Nat) (pv lv : Value) (ps : List (Nat × ByteArray)) (br : Bool) (d : Dk) (s : Sys w B bl bd bs pv lv ps br d) (ok : d.Ok) (hs : 90 < d.safe.length) (hll : d.late.length ≤ 800000) (hl : ps.length ≤ 80) (hb4 : ∀ p ∈ ps, 90 + p.1 < d.safe.length) (hz : ∀ p ∈ ps, p.2.size ≤ 256) :
    Calls Tryd.prog 57 #[.pointer (some ⟨bl, 0, none⟩)] w fun e w' => ∃ lv', e = .returned (.int .i64 (commitL d ps br).1) ∧ Sys w' B bl bd bs (.slice none 0 0) lv' [] (commitL d ps br).2.2 (commitL d ps br).2.1 ∧ Below B w w' ∧ SStep bl bd bs pv lv lv' w w' := by
  obtain ⟨ao, cap, hpv⟩ := ownsRow_form s.log.puts
  subst hpv
  have c1 := s.log.c1
  have c2 := s.log.c2
  have z2 := s.log.fz 2
  have hn := ok.n
  cases br with
  | true =>
    have HR : Hid (commitL d ps true = (9, d, true)) := by show commitL d ps true = _; simp [commitL]
    go_enter_defers Tryd.func57, Tryd.ntmps57
    go_wp2_with fail
    refine leaves_cons (f := 55) (args := #[.pointer (some ⟨bl, 0, none⟩)]) (by simp) (by simp [go_sem]) ?_
    refine (drop_deferred .returning _ bl bd _ ps true s.log).mono ?_
    rintro e u' w' ⟨rfl, rfl, hl', st⟩
    obtain ⟨s', b'⟩ := s.ofLog hl' st
    exact ⟨_, results_tmp rfl _ _ _, lv, by rw [unhide HR]; rfl, by rw [unhide HR]; exact s', b', SStep.ofLog st⟩
  | false =>
    by_cases hps : ps.length = 0
    · have HR : Hid (commitL d ps false = (0, d, false)) := by show commitL d ps false = _; simp [commitL, List.eq_nil_of_length_eq_zero hps]
      have hpb : ((ps.length : Int) == 0) = true := by rw [beq_iff_eq]; omega
      clear hps
      go_enter_defers Tryd.func57, Tryd.ntmps57
      go_wp2_with fail
      refine leaves_cons (f := 55) (args := #[.pointer (some ⟨bl, 0, none⟩)]) (by simp) (by simp [go_sem]) ?_
      refine (drop_deferred .returning _ bl bd _ ps false s.log).mono ?_
      rintro e u' w' ⟨rfl, rfl, hl', st⟩
      obtain ⟨s', b'⟩ := s.ofLog hl' st
      exact ⟨_, results_tmp rfl _ _ _, lv, by rw [unhide HR]; rfl, by rw [unhide HR]; exact s', b', SStep.ofLog st⟩
    · have hpb : ((ps.length : Int) == 0) = false := by rw [beq_eq_false_iff_ne]; omega
      obtain ⟨s1, b1⟩ := s.setBroken true
      have q1 := (DStep.refl bl bl (.slice ao ps.length cap) w).setOwn 2 (.bool true)
      have hb44 : ∀ p ∈ ps, p.1 < 4096 := fun p hp => by have := hb4 p hp; omega
      have c11 := s1.log.c1
      have HPS := hide hps
      clear hps
      cases hn1 : (d.through (room 0 ps) ps).1 with
      | false =>
        have HR : Hid (commitL d ps false = (9, (d.through (room 0 ps) ps).2, true)) := by
          show commitL d ps false = _
          simp only [commitL, hn1]
          simp [unhide HPS]
        have HN := hide hn1
        clear hn1
        go_enter_defers Tryd.func57, Tryd.ntmps57
        go_wp2_with fail
        refine (note_any _ bl bd bs lv (.slice ao ps.length cap) d ps s1.log.c0 s1.offLog s1.disk s1.queue ok hs hll hl hb44 hz).mono ?_
        rintro e w2 ⟨lv2, rfl, h2, st2⟩
        rw [unhide HN]
        obtain ⟨s2, b2⟩ := s1.ofDisk h2 st2
        go_wp2_with fail
        refine leaves_cons (f := 55) (args := #[.pointer (some ⟨bl, 0, none⟩)]) (by simp) (by simp [go_sem]) ?_
        refine (drop_deferred .returning _ bl bd _ ps true s2.log).mono ?_
        rintro e u' w' ⟨rfl, rfl, hl', st⟩
        obtain ⟨s', b'⟩ := s2.ofLog hl' st
        exact ⟨_, results_tmp rfl _ _ _, lv2, by rw [unhide HR]; rfl, by rw [unhide HR]; exact s', (b1.trans b2).trans b', ((SStep.ofLog q1).trans (SStep.ofDisk st2)).trans (SStep.ofLog st)⟩
      | true =>
        obtain ⟨ok2, hl2, hs2⟩ := Dk.through_ok hn1 ok (by omega) (fun x hx => by have := room_mem ps 0 x hx; omega)
        have hlen2 : (d.through (room 0 ps) ps).2.safe.length = d.safe.length := by rw [hs2, lay_len, lay_len]
        have hs90 : 90 < (d.through (room 0 ps) ps).2.safe.length := by omega
        have hll2 : (d.through (room 0 ps) ps).2.late.length ≤ 800000 := by rw [hl2]; simp
        have hb42 : ∀ p ∈ ps, 90 + p.1 < (d.through (room 0 ps) ps).2.safe.length := fun p hp => by rw [hlen2]; exact hb4 p hp
        clear hl2 hs2 hlen2
        cases hn2 : ((d.through (room 0 ps) ps).2.through (home ps) []).1 with
        | false =>
          have HR : Hid (commitL d ps false = (9, ((d.through (room 0 ps) ps).2.through (home ps) []).2, true)) := by
            show commitL d ps false = _
            simp only [commitL, hn1, hn2, if_true]
            simp [unhide HPS]
          have HN := hide hn1
          have HM := hide hn2
          clear hn1 hn2
          go_enter_defers Tryd.func57, Tryd.ntmps57
          go_wp2_with fail
          refine (note_any _ bl bd bs lv (.slice ao ps.length cap) d ps s1.log.c0 s1.offLog s1.disk s1.queue ok hs hll hl hb44 hz).mono ?_
          rintro e w2 ⟨lv2, rfl, h2, st2⟩
          rw [unhide HN]
          obtain ⟨s2, b2⟩ := s1.ofDisk h2 st2
          have c12 := s2.log.c1
          go_wp2_with fail
          refine (settle_any _ bl bd bs lv2 (.slice ao ps.length cap) _ ps s2.log.c0 s2.offLog s2.disk s2.queue ok2 hs90 hll2 hl hb42 hz).mono ?_
          rintro e w3 ⟨lv3, rfl, h3, st3⟩
          rw [unhide HM]
          obtain ⟨s3, b3⟩ := s2.ofDisk h3 st3
          go_wp2_with fail
          refine leaves_cons (f := 55) (args := #[.pointer (some ⟨bl, 0, none⟩)]) (by simp) (by simp [go_sem]) ?_
          refine (drop_deferred .returning _ bl bd _ ps true s3.log).mono ?_
          rintro e u' w' ⟨rfl, rfl, hl', st⟩
          obtain ⟨s', b'⟩ := s3.ofLog hl' st
          exact ⟨_, results_tmp rfl _ _ _, lv3, by rw [unhide HR]; rfl, by rw [unhide HR]; exact s', ((b1.trans b2).trans b3).trans b', (((SStep.ofLog q1).trans (SStep.ofDisk st2)).trans (SStep.ofDisk st3)).trans (SStep.ofLog st)⟩
        | true =>
          have HR : Hid (commitL d ps false = (0, ((d.through (room 0 ps) ps).2.through (home ps) []).2, false)) := by
            show commitL d ps false = _
            simp only [commitL, hn1, hn2, if_true]
            simp [unhide HPS]
          have HN := hide hn1
          have HM := hide hn2
          clear hn1 hn2
          go_enter_defers Tryd.func57, Tryd.ntmps57
          go_wp2_with fail
          refine (note_any _ bl bd bs lv (.slice ao ps.length cap) d ps s1.log.c0 s1.offLog s1.disk s1.queue ok hs hll hl hb44 hz).mono ?_
          rintro e w2 ⟨lv2, rfl, h2, st2⟩
          rw [unhide HN]
          obtain ⟨s2, b2⟩ := s1.ofDisk h2 st2
          have c12 := s2.log.c1
          go_wp2_with fail
          refine (settle_any _ bl bd bs lv2 (.slice ao ps.length cap) _ ps s2.log.c0 s2.offLog s2.disk s2.queue ok2 hs90 hll2 hl hb42 hz).mono ?_
          rintro e w3 ⟨lv3, rfl, h3, st3⟩
          rw [unhide HM]
          obtain ⟨s3, b3⟩ := s2.ofDisk h3 st3
          have c23 := s3.log.c2
          have z23 := s3.log.fz 2
          obtain ⟨s4, b4⟩ := s3.setBroken false
          have HQ4 := hide ((DStep.refl bl bl (.slice ao ps.length cap) w3).setOwn 2 (.bool false))
          have HS4 := hide s4
          have HB4 := hide b4
          clear s4 b4
          go_wp2_with fail
          refine leaves_cons (f := 55) (args := #[.pointer (some ⟨bl, 0, none⟩)]) (by simp) (by simp [go_sem]) ?_
          refine (drop_deferred .returning _ bl bd _ ps false (unhide HS4).log).mono ?_
          rintro e u' w' ⟨rfl, rfl, hl', st⟩
          obtain ⟨s', b'⟩ := (unhide HS4).ofLog hl' st
          exact ⟨_, results_tmp rfl _ _ _, lv3, by rw [unhide HR]; rfl, by rw [unhide HR]; exact s', (((b1.trans b2).trans b3).trans (unhide HB4)).trans b', ((((SStep.ofLog q1).trans (SStep.ofDisk st2)).trans (SStep.ofDisk st3)).trans (SStep.ofLog (unhide HQ4))).trans (SStep.ofLog st)⟩
end Go.Proofs.YtcbindgpbeaebaaDoor
