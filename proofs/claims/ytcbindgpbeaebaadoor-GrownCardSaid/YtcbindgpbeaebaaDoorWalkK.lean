import Derived.Test.YtcbindgpbeaebaaDoorWalkJ
namespace Go.Proofs.YtcbindgpbeaebaaDoor
open Go.RowKit Go.Deep
attribute [local go_sem ↓] Go.wp_at_zero Go.wp_at_succ

set_option maxRecDepth 100000 in
set_option maxHeartbeats 3200000 in
theorem settle_any (w : World) (bl bd bs : Nat) (lv qv : Value) (d : Dk) (ps : List (Nat × ByteArray)) (hp : w.cell? ⟨bl, 0, none⟩ = some (.pointer (some ⟨bd, 0, none⟩))) (off : Off w bd bs lv bl) (h : DAt w bd bs lv d) (hq : QAt w bd bs lv qv ps)
    (ok : d.Ok) (hs : 90 < d.safe.length) (hll : d.late.length ≤ 800000) (hl : ps.length ≤ 80) (hb4 : ∀ p ∈ ps, 90 + p.1 < d.safe.length) (hz : ∀ p ∈ ps, p.2.size ≤ 256) :
    Calls Tryd.prog 73 #[.pointer (some ⟨bl, 0, none⟩), qv] w fun e w' => ∃ lv', e = .returned (.bool (d.through (home ps) []).1) ∧ DAt w' bd bs lv' (d.through (home ps) []).2 ∧ DStep bd bs lv lv' w w' := by
  obtain ⟨ao, cap, hqv⟩ := ownsRow_form hq.own
  subst hqv
  have hT : ∀ k, ∀ x ∈ (home ps).take k, x.1 < d.safe.length := fun k x hx => by
    have hx := List.mem_of_mem_take hx
    simp only [home, List.mem_map] at hx
    obtain ⟨p, hp, rfl⟩ := hx
    exact hb4 p hp
  have hrl := home_len ps
  have HT := hide hT
  have HRL := hide hrl
  clear hT hrl
  go_enter Tryd.func73, Tryd.ntmps73
  go_wp2_with fail
  go_loopw [9] (fun i wr => ∃ (k : Nat) (lvk : Value), k ≤ ps.length ∧ i = .int .i64 k ∧ (d.writes ((home ps).take k)).1 = true ∧ DAt wr bd bs lvk (d.writes ((home ps).take k)).2 ∧ DStep bd bs lv lvk w wr) (fun i _ => ps.length - (intOf i).toNat)
  case atStart => exact ⟨0, lv, Nat.zero_le _, rfl, rfl, h, DStep.refl _ _ _ _⟩
  case round =>
    obtain ⟨k, lvk, hk, rfl, hok, hr, sr⟩ := hrel
    obtain ⟨okk, hsk, hlk⟩ := Dk.writes_ok _ _ hok ok ((unhide HT) k)
    have pr : ∀ o, (wr.alloc o).cell? ⟨bl, 0, none⟩ = some (.pointer (some ⟨bd, 0, none⟩)) := fun o => (World.cell?_alloc_past _ _ _ ((off.step sr).1.1)).trans ((off.cell sr 0).trans hp)
    have pr0 : wr.cell? ⟨bl, 0, none⟩ = some (.pointer (some ⟨bd, 0, none⟩)) := (off.cell sr 0).trans hp
    have hlkl : (d.writes ((home ps).take k)).2.late.length ≤ 900000 := by
      rw [hlk]; simp; omega
    have HOK := hide hok
    have HSK := hide hsk
    clear hok hsk hlk
    by_cases hlt : k < ps.length
    · obtain ⟨p, hpk⟩ : ∃ p, ps[k]? = some p := ⟨ps[k], List.getElem?_eq_getElem hlt⟩
      obtain ⟨g, capx, he, cA, cB, lg⟩ := row_at hq.own k p hpk
      have hao : ao = some ⟨g, 0, none⟩ := by
        simp only [Value.slice.injEq] at he
        exact he.1
      subst hao
      clear he
      have og := hq.off g rfl
      have cA' := (og.cell sr (k * 2)).trans cA
      have cB' := (og.cell sr (k * 2 + 1)).trans cB
      have hz' := hz p (List.mem_of_getElem? hpk)
      have hx := home_at ps k p hpk
      have hp4 := hb4 p (List.mem_of_getElem? hpk)
      have HX := hide hx
      clear hx hpk
      have i0 : (0 : Int) ≤ (k : Int) := Int.natCast_nonneg _
      have i1 : (k : Int) < (ps.length : Int) := by omega
      have hlen : (90 : Int) + (p.1 : Int) < ((d.writes ((home ps).take k)).2.safe.length : Int) := by rw [unhide HSK]; omega
      have hn := ok.n
      have hwr : IntKind.i64.wrap (90 + (p.1 : Int)) = 90 + (p.1 : Int) := by rw [IntKind.wrap_i64]; omega
      cases hw : ((d.writes ((home ps).take k)).2.write (90 + p.1) p.2).1 with
      | false =>
        have HF : Hid (d.through (home ps) [] = (false, ((d.writes ((home ps).take k)).2.write (90 + p.1) p.2).2)) := by
          show d.through (home ps) [] = _
          have := Dk.writes_fail (unhide HX) (unhide HOK) hw
          simp [Dk.through, this, hw]
        have HW := hide hw
        clear hw
        go_wp2_with fail
        go_region_with ((go_at_call 96; go_must (refine (write_any _ bd bs lvk (d.writes ((home ps).take k)).2 (90 + (p.1 : Int)) p.2 ?_ okk ?_ ?_ hz' ?_).mono ?_; (· exact (hr.alloc _).drew); (· omega); (· omega); (· omega); rintro e w2 ⟨lv2, rfl, h2, st2⟩; rw [show ((90 : Int) + (p.1 : Int)).toNat = 90 + p.1 by omega] at h2 ⊢; rw [unhide HW])))
        all_goals
          go_wp2_with fail
          go_ret
          exact ⟨lv2, by rw [unhide HF]; rfl, by rw [unhide HF]; exact h2, (sr.alloc _).drew.trans st2⟩
      | true =>
        have HW := hide hw
        clear hw
        go_wp2_with fail
        go_region_with ((go_at_call 96; go_must (refine (write_any _ bd bs lvk (d.writes ((home ps).take k)).2 (90 + (p.1 : Int)) p.2 ?_ okk ?_ ?_ hz' ?_).mono ?_; (· exact (hr.alloc _).drew); (· omega); (· omega); (· omega); rintro e w2 ⟨lv2, rfl, h2, st2⟩; rw [show ((90 : Int) + (p.1 : Int)).toNat = 90 + p.1 by omega] at h2 ⊢; rw [unhide HW])))
        all_goals
          go_wp2_with fail
          go_roundw
          case rel =>
            refine ⟨k + 1, lv2, by omega, by go_num, ?_, ?_, (sr.alloc _).drew.trans st2⟩
            · rw [Dk.writes_next (unhide HX) (unhide HOK)]; exact unhide HW
            · rw [Dk.writes_next (unhide HX) (unhide HOK)]; exact h2
          case measure => simp [intOf]; omega
    · have hk' : (home ps).take k = home ps := List.take_of_length_le (by rw [unhide HRL]; omega)
      rw [hk'] at hr okk hlkl
      have hok := unhide HOK
      have hsk := unhide HSK
      rw [hk'] at hok hsk
      clear hk' HOK HSK
      have offr := (off.step sr).1
      cases hf : (d.writes (home ps)).2.flush.1 with
      | false =>
        have HF : Hid (d.through (home ps) [] = (false, (d.writes (home ps)).2.flush.2)) := by
          show d.through (home ps) [] = _
          simp [Dk.through, hok, hf]
        have HW := hide hf
        clear hf hok hsk
        go_wp2_with fail
        refine (flush_any _ bd bs lvk (d.writes (home ps)).2 hr okk (by omega)).mono ?_
        rintro e w2 ⟨lv2, rfl, h2, st2⟩
        rw [unhide HW]
        go_wp2_with fail
        go_ret
        exact ⟨lv2, by rw [unhide HF]; rfl, by rw [unhide HF]; exact h2, sr.trans st2⟩
      | true =>
        have HF : Hid (d.through (home ps) [] = (d.writes (home ps)).2.flush.2.setRec []) := by
          show d.through (home ps) [] = _
          simp [Dk.through, hok, hf]
        obtain ⟨ok3, hs3, hl3⟩ := Dk.flush_ok hf okk
        have hs4 : 0 < (d.writes (home ps)).2.flush.2.safe.length := by rw [hs3, lay_len, hsk]; omega
        have hl4 : (d.writes (home ps)).2.flush.2.late.length ≤ 900000 := by rw [hl3]; simp
        have HW := hide hf
        clear hf hok hsk hs3 hl3
        go_wp2_with fail
        refine (flush_any _ bd bs lvk (d.writes (home ps)).2 hr okk (by omega)).mono ?_
        rintro e w2 ⟨lv2, rfl, h2, st2⟩
        rw [unhide HW]
        have st02 := sr.trans st2
        have off2 := (off.step st02).1
        have p2 : w2.cell? ⟨bl, 0, none⟩ = some (.pointer (some ⟨bd, 0, none⟩)) := (off.cell st02 0).trans hp
        go_wp2_with fail
        refine (setRecord_any _ bl bd bs lv2 (.slice none 0 0) (d.writes (home ps)).2.flush.2 [] p2 off2 h2 (World.ownsRow_nil _ _ _ _) ok3 hs4 hl4 (by simp) (by simp)).mono ?_
        rintro e w3 ⟨lv3, rfl, h3, st3⟩
        go_wp2_with fail
        go_ret
        exact ⟨lv3, by rw [unhide HF]; rfl, by rw [unhide HF]; exact h3, st02.trans st3⟩
end Go.Proofs.YtcbindgpbeaebaaDoor
