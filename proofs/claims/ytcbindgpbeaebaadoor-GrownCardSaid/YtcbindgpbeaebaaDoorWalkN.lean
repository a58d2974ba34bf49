import Derived.Test.YtcbindgpbeaebaaDoorWalkM
namespace Go.Proofs.YtcbindgpbeaebaaDoor
open Go.RowKit Go.Deep
attribute [local go_sem ↓] Go.wp_at_zero Go.wp_at_succ

/-- (*Log).redo, where the record tells the numbers of ps. -/
def Dk.redo (d : Dk) (ps : List (Nat × ByteArray)) : Bool × Dk :=
  if d.flush.1 then (if d.flush.2.life = 0 then (false, d.flush.2) else if ps.length = 0 then (true, d.flush.2) else d.flush.2.through (home (inRoom d.flush.2 0 ps)) [])
  else (false, d.flush.2)
theorem inRoom_mem (d : Dk) : ∀ (ps : List (Nat × ByteArray)) (i : Nat) (x : Nat × ByteArray), x ∈ inRoom d i ps → (∃ p ∈ ps, x.1 = p.1) ∧ ∃ k, x.2 = d.read k
  | [], _, _, h => by simp [inRoom] at h
  | q :: r, i, x, h => by
    simp only [inRoom, List.mem_cons] at h
    rcases h with rfl | h
    · exact ⟨⟨q, by simp, rfl⟩, _, rfl⟩
    · obtain ⟨⟨p, hp, e⟩, k, hk⟩ := inRoom_mem d r (i + 1) x h
      exact ⟨⟨p, by simp [hp], e⟩, k, hk⟩

set_option maxRecDepth 100000 in
set_option maxHeartbeats 3200000 in
theorem redo_any (w : World) (bl bd bs : Nat) (lv : Value) (d : Dk) (ps : List (Nat × ByteArray)) (hp : w.cell? ⟨bl, 0, none⟩ = some (.pointer (some ⟨bd, 0, none⟩))) (off : Off w bd bs lv bl) (h : DAt w bd bs lv d) (ok : d.Ok) (hs : 90 < d.safe.length) (hll : d.late.length ≤ 1000000)
    (ht : d.flush.1 = true → Tells (d.flush.2.read 0) ps) (hl : ps.length ≤ 80) (hb4 : ∀ p ∈ ps, 90 + p.1 < d.safe.length) (hz : ∀ p ∈ inRoom d.flush.2 0 ps, p.2.size ≤ 256) :
    Calls Tryd.prog 53 #[.pointer (some ⟨bl, 0, none⟩)] w fun e w' => ∃ lv', e = .returned (.bool (d.redo ps).1) ∧ DAt w' bd bs lv' (d.redo ps).2 ∧ DStep bd bs lv lv' w w' := by
  cases hf : d.flush.1 with
  | false =>
    have HR : Hid (d.redo ps = (false, d.flush.2)) := by show d.redo ps = _; simp [Dk.redo, hf]
    have HF := hide hf
    clear hf ht
    go_enter Tryd.func53, Tryd.ntmps53
    go_wp2_with fail
    refine (flush_any _ bd bs lv d h ok hll).mono ?_
    rintro e w1 ⟨lv1, rfl, h1, st1⟩
    rw [unhide HF]
    go_wp2_with fail
    go_ret
    exact ⟨lv1, by rw [unhide HR]; rfl, by rw [unhide HR]; exact h1, st1⟩
  | true =>
    obtain ⟨ok1, hs1, hl1⟩ := Dk.flush_ok hf ok
    have hlen : d.flush.2.safe.length = d.safe.length := by rw [hs1, lay_len]
    have ht' := ht hf
    have hn1 := ok1.n
    have hll1 : d.flush.2.late.length ≤ 800000 := by rw [hl1]; simp
    have hs90 : 90 < d.flush.2.safe.length := by omega
    have hb41 : ∀ p ∈ ps, 90 + p.1 < d.flush.2.safe.length := fun p hp => by rw [hlen]; exact hb4 p hp
    by_cases hd : d.flush.2.life = 0
    · have HR : Hid (d.redo ps = (false, d.flush.2)) := by show d.redo ps = _; simp [Dk.redo, hf, hd]
      have HF := hide hf
      have HD := hide hd
      clear hf hd ht hs1 hl1 hlen ht'
      go_enter Tryd.func53, Tryd.ntmps53
      go_wp2_with fail
      refine (flush_any _ bd bs lv d h ok hll).mono ?_
      rintro e w1 ⟨lv1, rfl, h1, st1⟩
      rw [unhide HF]
      have p1 := (off.cell st1 0).trans hp
      go_wp2_with fail
      refine (noted_dead _ bl bd bs lv1 d.flush.2 p1 h1 hs90 (unhide HD)).mono ?_
      rintro e w2 ⟨rfl, rfl⟩
      go_wp2_with fail
      go_ret
      exact ⟨lv1, by rw [unhide HR]; rfl, by rw [unhide HR]; exact h1, st1⟩
    · by_cases hps : ps.length = 0
      · have HR : Hid (d.redo ps = (true, d.flush.2)) := by show d.redo ps = _; simp [Dk.redo, hf, hd, List.eq_nil_of_length_eq_zero hps]
        have HF := hide hf
        have HD := hide hd
        have hpb : ((ps.length : Int) == 0) = true := by rw [beq_iff_eq]; omega
        clear hf hd ht hs1 hl1 hlen hps
        go_enter Tryd.func53, Tryd.ntmps53
        go_wp2_with fail
        refine (flush_any _ bd bs lv d h ok hll).mono ?_
        rintro e w1 ⟨lv1, rfl, h1, st1⟩
        rw [unhide HF]
        have p1 := (off.cell st1 0).trans hp
        go_wp2_with fail
        refine (noted_live _ bl bd bs lv1 d.flush.2 ps p1 h1 hn1 hs90 (by omega) (unhide HD) ht' hl hb41).mono ?_
        rintro e w2 ⟨v, rfl, hv, hb⟩
        obtain ⟨no, ncap, rfl⟩ : ∃ no ncap, v = .slice no ps.length ncap := ownsRow_form (ownsRow_base hv (Nat.zero_le _))
        go_wp2_with fail
        go_ret
        exact ⟨lv1, by rw [unhide HR]; rfl, by rw [unhide HR]; exact h1.below hb, st1.trans (DStep.ofBelow hb)⟩
      · have HR : Hid (d.redo ps = d.flush.2.through (home (inRoom d.flush.2 0 ps)) []) := by
          show d.redo ps = _
          simp only [Dk.redo, hf, if_true, hd, if_false, hps]
        have HF := hide hf
        have HD := hide hd
        have hpb : ((ps.length : Int) == 0) = false := by rw [beq_eq_false_iff_ne]; omega
        have hlen' := inRoom_len d.flush.2 ps 0
        have hN4 : ∀ p ∈ inRoom d.flush.2 0 ps, 90 + p.1 < d.flush.2.safe.length := fun x hx => by
          obtain ⟨⟨p, hp, e⟩, _⟩ := inRoom_mem _ ps 0 x hx
          rw [e]; exact hb41 p hp
        have hNz : ∀ p ∈ inRoom d.flush.2 0 ps, p.2.size ≤ 256 := hz
        have hNl : (inRoom d.flush.2 0 ps).length ≤ 80 := by omega
        have HL := hide hlen'
        clear hf hd ht hs1 hl1 hlen hps hlen'
        go_enter Tryd.func53, Tryd.ntmps53
        go_wp2_with fail
        refine (flush_any _ bd bs lv d h ok hll).mono ?_
        rintro e w1 ⟨lv1, rfl, h1, st1⟩
        rw [unhide HF]
        have p1 := (off.cell st1 0).trans hp
        go_wp2_with fail
        refine (noted_live _ bl bd bs lv1 d.flush.2 ps p1 h1 hn1 hs90 (by omega) (unhide HD) ht' hl hb41).mono ?_
        rintro e w2 ⟨v, rfl, hv, hb⟩
        obtain ⟨no, ncap, rfl⟩ : ∃ no ncap, v = .slice no ps.length ncap := ownsRow_form (ownsRow_base hv (Nat.zero_le _))
        have st2 := st1.trans (DStep.ofBelow (bd := bd) (bs := bs) (lv := lv1) hb)
        have off2 := (off.step st2).1
        have p2 := (off.cell st2 0).trans hp
        have h2 := h1.below hb
        have q2 : QAt w2 bd bs lv1 (.slice no ps.length ncap) (inRoom d.flush.2 0 ps) := by
          refine ⟨by rw [unhide HL]; exact ownsRow_base hv (Nat.zero_le _), fun g hg => ?_⟩
          obtain ⟨ga, gb⟩ := hv.lt g hg
          refine ⟨gb, ?_, ?_, fun e => ?_⟩
          · have := h1.ltd; omega
          · have := h1.lts; omega
          · have := h1.ltl g e; omega
        go_wp2_with fail
        refine (settle_any _ bl bd bs lv1 (.slice no ps.length ncap) d.flush.2 (inRoom d.flush.2 0 ps) p2 off2 h2 q2 ok1 hs90 hll1 hNl hN4 hNz).mono ?_
        rintro e w3 ⟨lv3, rfl, h3, st3⟩
        go_wp2_with fail
        go_ret
        exact ⟨lv3, by rw [unhide HR]; rfl, by rw [unhide HR]; exact h3, st2.trans st3⟩

set_option maxRecDepth 100000 in
set_option maxHeartbeats 1600000 in
theorem open_any (w : World) (B bd bs : Nat) (lv : Value) (d : Dk) (ps : List (Nat × ByteArray)) (h : DAt w bd bs lv d) (hB : B ≤ w.heap.size) (hBd : B ≤ bd) (hBs : B ≤ bs) (hBv : ∀ g, lv.ownBlock = some g → B ≤ g) (ok : d.Ok) (hs : 90 < d.safe.length) (hll : d.late.length ≤ 1000000)
    (ht : d.flush.1 = true → Tells (d.flush.2.read 0) ps) (hl : ps.length ≤ 80) (hb4 : ∀ p ∈ ps, 90 + p.1 < d.safe.length) (hz : ∀ p ∈ inRoom d.flush.2 0 ps, p.2.size ≤ 256) :
    Calls Tryd.prog 30 #[.pointer (some ⟨bd, 0, none⟩)] w fun e w' => ∃ lv', DStep bd bs lv lv' w w' ∧ Below B w w' ∧
      ((d.redo ps).1 = true → e = .returned (.tuple #[.pointer (some ⟨w.heap.size, 0, none⟩), .int .i64 0]) ∧ Sys w' B w.heap.size bd bs (.slice none 0 0) lv' [] false (d.redo ps).2) ∧
      ((d.redo ps).1 = false → e = .returned (.tuple #[.pointer none, .int .i64 9]) ∧ DAt w' bd bs lv' (d.redo ps).2 ∧ DStep bd bs lv lv' w w') := by
  have hn := ok.n
  have hld := h.ltd
  have hls := h.lts
  have hlv := h.ltl
  have h1 := h.alloc (.cells (lcells bd (.slice none 0 0) false) 113 (0, 0))
  have st1 := (DStep.refl bd bs lv w).alloc (.cells (lcells bd (.slice none 0 0) false) 113 (0, 0))
  have l1 : LAt (w.alloc (.cells (lcells bd (.slice none 0 0) false) 113 (0, 0))) w.heap.size bd (.slice none 0 0) [] false := ⟨heap_alloc_new w _, World.ownsRow_nil _ _ _ _, by simp [Value.ownBlock]⟩
  have sys1 : Sys (w.alloc (.cells (lcells bd (.slice none 0 0) false) 113 (0, 0))) B w.heap.size bd bs (.slice none 0 0) lv [] false d :=
    ⟨l1, h1, ⟨by omega, by omega, fun e => by have := hlv _ e; omega, by simp [Value.ownBlock], by simp [Value.ownBlock], by simp [Value.ownBlock], hB, hBd, hBs, by simp [Value.ownBlock], hBv⟩, by simp; omega⟩
  have b1 : Below B w (w.alloc (.cells (lcells bd (.slice none 0 0) false) 113 (0, 0))) := (Below.refl _ _).alloc hB _
  have HST := hide st1
  have HS1 := hide sys1
  have HB1 := hide b1
  clear st1 sys1 b1 hlv
  go_enter Tryd.func30, Tryd.ntmps30
  go_wp2_with (go_at_call 29; refine (dblocks_any _ _ _ _ _ h).mono ?_; rintro e w' ⟨rfl, hw⟩; have hw := hw.symm; subst hw)
  refine (redo_any (w.alloc (.cells (lcells bd (.slice none 0 0) false) 113 (0, 0))) w.heap.size bd bs lv d ps l1.c0 (unhide HS1).offLog h1 ok hs hll ht hl hb4 hz).mono ?_
  rintro e w2 ⟨lv2, rfl, h2, st2⟩
  obtain ⟨s2, b2⟩ := (unhide HS1).ofDisk h2 st2
  have HB2 := hide b2
  have HS2 := hide s2
  clear b2 s2
  cases hr : (d.redo ps).1 with
  | false =>
    have HR := hide hr
    clear hr
    go_wp2_with fail
    go_ret2
    exact ⟨lv2, (unhide HST).trans st2, (unhide HB1).trans (unhide HB2), fun e => absurd (e.symm.trans (unhide HR)) (by decide), fun _ => ⟨rfl, h2, (unhide HST).trans st2⟩⟩
  | true =>
    have HR := hide hr
    clear hr
    go_wp2_with fail
    go_ret2
    exact ⟨lv2, (unhide HST).trans st2, (unhide HB1).trans (unhide HB2), fun _ => ⟨rfl, unhide HS2⟩, fun e => absurd (e.symm.trans (unhide HR)) (by decide)⟩
end Go.Proofs.YtcbindgpbeaebaaDoor
