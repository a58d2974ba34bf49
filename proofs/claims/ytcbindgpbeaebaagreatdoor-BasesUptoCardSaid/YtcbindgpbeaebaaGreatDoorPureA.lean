import Derived.Test.YtcbindgpbeaebaaGreatDoorLog
import Derived.Deep.QuietTactic
import Derived.BigQuiet
namespace Go.Proofs.YtcbindgpbeaebaaGreatDoor

/-- Writes in turn, till one fails. -/
def Dk.writes (d : Dk) : List (Nat × ByteArray) → Bool × Dk
  | [] => (true, d)
  | x :: r => if (d.write x.1 x.2).1 then (d.write x.1 x.2).2.writes r else (false, (d.write x.1 x.2).2)
theorem Dk.writes_app : ∀ (l m : List (Nat × ByteArray)) (d : Dk), d.writes (l ++ m) = if (d.writes l).1 then (d.writes l).2.writes m else d.writes l
  | [], m, d => by simp [Dk.writes]
  | x :: r, m, d => by
    simp only [List.cons_append, Dk.writes]
    by_cases h : (d.write x.1 x.2).1 = true
    · simp only [h, if_true]; exact Dk.writes_app r m _
    · simp [h]
theorem Dk.writes_snoc {l : List (Nat × ByteArray)} {d : Dk} (x : Nat × ByteArray) (h : (d.writes l).1 = true) : d.writes (l ++ [x]) = (d.writes l).2.write x.1 x.2 := by
  rw [Dk.writes_app, if_pos h]
  simp only [Dk.writes]
  cases h : ((d.writes l).2.write x.1 x.2).1
  · simp [Prod.ext_iff, h]
  · simp [Prod.ext_iff, h]
theorem Dk.writes_stop {l m : List (Nat × ByteArray)} {d : Dk} (h : (d.writes l).1 = false) : d.writes (l ++ m) = d.writes l := by
  rw [Dk.writes_app, if_neg (by simp [h])]
/-- The first k have been written, and the next one. -/
theorem Dk.writes_next {T : List (Nat × ByteArray)} {d : Dk} {k : Nat} {x : Nat × ByteArray} (hx : T[k]? = some x) (h : (d.writes (T.take k)).1 = true) : d.writes (T.take (k + 1)) = (d.writes (T.take k)).2.write x.1 x.2 := by
  rw [List.take_add_one, hx]
  exact Dk.writes_snoc x h
theorem Dk.writes_fail {T : List (Nat × ByteArray)} {d : Dk} {k : Nat} {x : Nat × ByteArray} (hx : T[k]? = some x) (h : (d.writes (T.take k)).1 = true) (hf : ((d.writes (T.take k)).2.write x.1 x.2).1 = false) : d.writes T = (d.writes (T.take k)).2.write x.1 x.2 := by
  have hn := Dk.writes_next hx h
  have e : d.writes T = d.writes (T.take (k + 1) ++ T.drop (k + 1)) := by rw [List.take_append_drop]
  rw [e, Dk.writes_stop (by rw [hn]; exact hf), hn]
theorem Dk.writes_ok : ∀ (T : List (Nat × ByteArray)) (d : Dk), (d.writes T).1 = true → d.Ok → (∀ x ∈ T, x.1 < d.safe.length) →
    (d.writes T).2.Ok ∧ (d.writes T).2.safe = d.safe ∧ (d.writes T).2.late = d.late ++ T.map fun x => (x.1, pad x.2)
  | [], d, _, ok, _ => ⟨ok, rfl, by simp [Dk.writes]⟩
  | x :: r, d, h, ok, hT => by
    have hw : (d.write x.1 x.2).1 = true := by
      cases hw : (d.write x.1 x.2).1
      · simp [Dk.writes, hw] at h
      · rfl
    obtain ⟨ok1, hs1, hl1⟩ := Dk.write_ok hw ok (hT x (by simp))
    simp only [Dk.writes, hw, if_true] at h ⊢
    obtain ⟨ok2, hs2, hl2⟩ := Dk.writes_ok r _ h ok1 fun y hy => by rw [hs1]; exact hT y (by simp [hy])
    refine ⟨ok2, hs2.trans hs1, ?_⟩
    rw [hl2, hl1]
    simp

/-- What is written, is made sure of; then a record is. -/
def Dk.through (d : Dk) (T ps : List (Nat × ByteArray)) : Bool × Dk :=
  if (d.writes T).1 then (if (d.writes T).2.flush.1 then (d.writes T).2.flush.2.setRec ps else (false, (d.writes T).2.flush.2)) else (false, (d.writes T).2)
/-- The room of the log. -/
def room : Nat → List (Nat × ByteArray) → List (Nat × ByteArray)
  | _, [] => []
  | i, p :: r => (1 + i, p.2) :: room (i + 1) r
theorem room_at : ∀ (ps : List (Nat × ByteArray)) (i k : Nat) (p : Nat × ByteArray), ps[k]? = some p → (room i ps)[k]? = some (1 + (i + k), p.2)
  | [], _, _, _, h => by simp at h
  | q :: r, i, 0, p, h => by simp at h; subst h; simp [room]
  | q :: r, i, k + 1, p, h => by
    have := room_at r (i + 1) k p (by simpa using h)
    simp only [room, List.getElem?_cons_succ, this]
    congr 2; omega
theorem room_len : ∀ (ps : List (Nat × ByteArray)) (i : Nat), (room i ps).length = ps.length
  | [], _ => rfl
  | q :: r, i => by simp [room, room_len r]
theorem room_mem : ∀ (ps : List (Nat × ByteArray)) (i : Nat) (x : Nat × ByteArray), x ∈ room i ps → x.1 ≤ i + ps.length ∧ 1 ≤ x.1
  | [], _, _, h => by simp [room] at h
  | q :: r, i, x, h => by
    simp only [room, List.mem_cons] at h
    rcases h with rfl | h
    · simp; omega
    · have := room_mem r (i + 1) x h; simp; omega
/-- The places where they belong. -/
def home (ps : List (Nat × ByteArray)) : List (Nat × ByteArray) := ps.map fun p => (90 + p.1, p.2)
theorem home_at (ps : List (Nat × ByteArray)) (k : Nat) (p : Nat × ByteArray) (h : ps[k]? = some p) : (home ps)[k]? = some (90 + p.1, p.2) := by simp [home, h]
theorem home_len (ps : List (Nat × ByteArray)) : (home ps).length = ps.length := by simp [home]
end Go.Proofs.YtcbindgpbeaebaaGreatDoor

namespace Go.Proofs.YtcbindgpbeaebaaGreatDoor
open Go.RowKit Go.Deep
attribute [local go_sem ↓] Go.wp_at_zero Go.wp_at_succ

set_option maxRecDepth 100000 in
set_option maxHeartbeats 3200000 in
theorem note_any (w : World) (bl bd bs : Nat) (lv qv : Value) (d : Dk) (ps : List (Nat × ByteArray)) (hp : w.cell? ⟨bl, 0, none⟩ = some (.pointer (some ⟨bd, 0, none⟩))) (off : Off w bd bs lv bl) (h : DAt w bd bs lv d) (hq : QAt w bd bs lv qv ps)
    (ok : d.Ok) (hs : 90 < d.safe.length) (hll : d.late.length ≤ 800000) (hl : ps.length ≤ 80) (hb4 : ∀ p ∈ ps, p.1 < 4096) (hz : ∀ p ∈ ps, p.2.size ≤ 256) :
    Calls Tryz.prog 154 #[.pointer (some ⟨bl, 0, none⟩), qv] w fun e w' => ∃ lv', e = .returned (.bool (d.through (room 0 ps) ps).1) ∧ DAt w' bd bs lv' (d.through (room 0 ps) ps).2 ∧ DStep bd bs lv lv' w w' := by
  obtain ⟨ao, cap, hqv⟩ := ownsRow_form hq.own
  subst hqv
  have hT : ∀ k, ∀ x ∈ (room 0 ps).take k, x.1 < d.safe.length := fun k x hx => by have := room_mem ps 0 x (List.mem_of_mem_take hx); omega
  have hrl := room_len ps 0
  have HT := hide hT
  have HRL := hide hrl
  clear hT hrl
  go_enter Tryz.func154, Tryz.ntmps154
  go_wp2_with fail
  go_loopw [9] (fun i wr => ∃ (k : Nat) (lvk : Value), k ≤ ps.length ∧ i = .int .i64 k ∧ (d.writes ((room 0 ps).take k)).1 = true ∧ DAt wr bd bs lvk (d.writes ((room 0 ps).take k)).2 ∧ DStep bd bs lv lvk w wr) (fun i _ => ps.length - (intOf i).toNat)
  case atStart => exact ⟨0, lv, Nat.zero_le _, rfl, rfl, h, DStep.refl _ _ _ _⟩
  case round =>
    obtain ⟨k, lvk, hk, rfl, hok, hr, sr⟩ := hrel
    obtain ⟨okk, hsk, hlk⟩ := Dk.writes_ok _ _ hok ok ((unhide HT) k)
    have pr : ∀ o, (wr.alloc o).cell? ⟨bl, 0, none⟩ = some (.pointer (some ⟨bd, 0, none⟩)) := fun o => (World.cell?_alloc_past _ _ _ ((off.step sr).1.1)).trans ((off.cell sr 0).trans hp)
    have pr0 : wr.cell? ⟨bl, 0, none⟩ = some (.pointer (some ⟨bd, 0, none⟩)) := (off.cell sr 0).trans hp
    have hlkl : (d.writes ((room 0 ps).take k)).2.late.length ≤ 900000 := by
      rw [hlk]; simp; omega
    have HOK := hide hok
    have HSK := hide hsk
    clear hok hsk hlk
    by_cases hlt : k < ps.length
    · obtain ⟨p, hpk⟩ : ∃ p, ps[k]? = some p := ⟨ps[k], List.getElem?_eq_getElem hlt⟩
      obtain ⟨g, capx, he, cA, cB, lg⟩ := row_at hq.own k p hpk
      have hao : ao = some ⟨g, 0, none⟩ := by
        simp only [Value.slice.injEq] at he
        exact he.1
      subst hao
      clear he
      have og := hq.off g rfl
      have cA' := (og.cell sr (k * 2)).trans cA
      have cB' := (og.cell sr (k * 2 + 1)).trans cB
      have hz' := hz p (List.mem_of_getElem? hpk)
      have hx := room_at ps 0 k p hpk
      rw [Nat.zero_add] at hx
      have HX := hide hx
      clear hx hpk
      have i0 : (0 : Int) ≤ (k : Int) := Int.natCast_nonneg _
      have i1 : (k : Int) < (ps.length : Int) := by omega
      have hlen : (1 : Int) + (k : Int) < ((d.writes ((room 0 ps).take k)).2.safe.length : Int) := by rw [unhide HSK]; omega
      have hwr : IntKind.i64.wrap (1 + (k : Int)) = 1 + (k : Int) := by rw [IntKind.wrap_i64]; omega
      cases hw : ((d.writes ((room 0 ps).take k)).2.write (1 + k) p.2).1 with
      | false =>
        have HF : Hid (d.through (room 0 ps) ps = (false, ((d.writes ((room 0 ps).take k)).2.write (1 + k) p.2).2)) := by
          show d.through (room 0 ps) ps = _
          have := Dk.writes_fail (unhide HX) (unhide HOK) hw
          simp [Dk.through, this, hw]
        have HW := hide hw
        clear hw
        go_wp2_with fail
        go_region_with ((go_at_call 185; go_must (refine (write_any _ bd bs lvk (d.writes ((room 0 ps).take k)).2 (1 + (k : Int)) p.2 ?_ okk ?_ ?_ hz' ?_).mono ?_; (· exact (hr.alloc _).drew); (· omega); (· omega); (· omega); rintro e w2 ⟨lv2, rfl, h2, st2⟩; rw [show ((1 : Int) + (k : Int)).toNat = 1 + k by omega] at h2 ⊢; rw [unhide HW])))
        all_goals
          go_wp2_with fail
          go_ret
          exact ⟨lv2, by rw [unhide HF]; rfl, by rw [unhide HF]; exact h2, (sr.alloc _).drew.trans st2⟩
      | true =>
        have HW := hide hw
        clear hw
        go_wp2_with fail
        go_region_with ((go_at_call 185; go_must (refine (write_any _ bd bs lvk (d.writes ((room 0 ps).take k)).2 (1 + (k : Int)) p.2 ?_ okk ?_ ?_ hz' ?_).mono ?_; (· exact (hr.alloc _).drew); (· omega); (· omega); (· omega); rintro e w2 ⟨lv2, rfl, h2, st2⟩; rw [show ((1 : Int) + (k : Int)).toNat = 1 + k by omega] at h2 ⊢; rw [unhide HW])))
        all_goals
          go_wp2_with fail
          go_roundw
          case rel =>
            refine ⟨k + 1, lv2, by omega, by go_num, ?_, ?_, (sr.alloc _).drew.trans st2⟩
            · rw [Dk.writes_next (unhide HX) (unhide HOK)]; exact unhide HW
            · rw [Dk.writes_next (unhide HX) (unhide HOK)]; exact h2
          case measure => simp [intOf]; omega
    · have hk' : (room 0 ps).take k = room 0 ps := List.take_of_length_le (by rw [unhide HRL]; omega)
      rw [hk'] at hr okk hlkl
      have hok := unhide HOK
      have hsk := unhide HSK
      rw [hk'] at hok hsk
      clear hk' HOK HSK
      have offr := (off.step sr).1
      cases hf : (d.writes (room 0 ps)).2.flush.1 with
      | false =>
        have HF : Hid (d.through (room 0 ps) ps = (false, (d.writes (room 0 ps)).2.flush.2)) := by
          show d.through (room 0 ps) ps = _
          simp [Dk.through, hok, hf]
        have HW := hide hf
        clear hf hok hsk
        go_wp2_with fail
        refine (flush_any _ bd bs lvk (d.writes (room 0 ps)).2 hr okk (by omega)).mono ?_
        rintro e w2 ⟨lv2, rfl, h2, st2⟩
        rw [unhide HW]
        go_wp2_with fail
        go_ret
        exact ⟨lv2, by rw [unhide HF]; rfl, by rw [unhide HF]; exact h2, sr.trans st2⟩
      | true =>
        have HF : Hid (d.through (room 0 ps) ps = (d.writes (room 0 ps)).2.flush.2.setRec ps) := by
          show d.through (room 0 ps) ps = _
          simp [Dk.through, hok, hf]
        obtain ⟨ok3, hs3, hl3⟩ := Dk.flush_ok hf okk
        have hs4 : 0 < (d.writes (room 0 ps)).2.flush.2.safe.length := by rw [hs3, lay_len, hsk]; omega
        have hl4 : (d.writes (room 0 ps)).2.flush.2.late.length ≤ 900000 := by rw [hl3]; simp
        have HW := hide hf
        clear hf hok hsk hs3 hl3
        go_wp2_with fail
        refine (flush_any _ bd bs lvk (d.writes (room 0 ps)).2 hr okk (by omega)).mono ?_
        rintro e w2 ⟨lv2, rfl, h2, st2⟩
        rw [unhide HW]
        have st02 := sr.trans st2
        have off2 := (off.step st02).1
        have p2 : w2.cell? ⟨bl, 0, none⟩ = some (.pointer (some ⟨bd, 0, none⟩)) := (off.cell st02 0).trans hp
        have q2 := (hq.step st02).own
        go_wp2_with fail
        refine (setRecord_any _ bl bd bs lv2 (.slice ao ps.length cap) (d.writes (room 0 ps)).2.flush.2 ps p2 off2 h2 q2 ok3 hs4 hl4 hl hb4).mono ?_
        rintro e w3 ⟨lv3, rfl, h3, st3⟩
        go_wp2_with fail
        go_ret
        exact ⟨lv3, by rw [unhide HF]; rfl, by rw [unhide HF]; exact h3, st02.trans st3⟩
end Go.Proofs.YtcbindgpbeaebaaGreatDoor

namespace Go.Proofs.YtcbindgpbeaebaaGreatDoor
open Go.RowKit Go.Deep
attribute [local go_sem ↓] Go.wp_at_zero Go.wp_at_succ

set_option maxRecDepth 100000 in
set_option maxHeartbeats 3200000 in
theorem settle_any (w : World) (bl bd bs : Nat) (lv qv : Value) (d : Dk) (ps : List (Nat × ByteArray)) (hp : w.cell? ⟨bl, 0, none⟩ = some (.pointer (some ⟨bd, 0, none⟩))) (off : Off w bd bs lv bl) (h : DAt w bd bs lv d) (hq : QAt w bd bs lv qv ps)
    (ok : d.Ok) (hs : 90 < d.safe.length) (hll : d.late.length ≤ 800000) (hl : ps.length ≤ 80) (hb4 : ∀ p ∈ ps, 90 + p.1 < d.safe.length) (hz : ∀ p ∈ ps, p.2.size ≤ 256) :
    Calls Tryz.prog 151 #[.pointer (some ⟨bl, 0, none⟩), qv] w fun e w' => ∃ lv', e = .returned (.bool (d.through (home ps) []).1) ∧ DAt w' bd bs lv' (d.through (home ps) []).2 ∧ DStep bd bs lv lv' w w' := by
  obtain ⟨ao, cap, hqv⟩ := ownsRow_form hq.own
  subst hqv
  have hT : ∀ k, ∀ x ∈ (home ps).take k, x.1 < d.safe.length := fun k x hx => by
    have hx := List.mem_of_mem_take hx
    simp only [home, List.mem_map] at hx
    obtain ⟨p, hp, rfl⟩ := hx
    exact hb4 p hp
  have hrl := home_len ps
  have HT := hide hT
  have HRL := hide hrl
  clear hT hrl
  go_enter Tryz.func151, Tryz.ntmps151
  go_wp2_with fail
  go_loopw [9] (fun i wr => ∃ (k : Nat) (lvk : Value), k ≤ ps.length ∧ i = .int .i64 k ∧ (d.writes ((home ps).take k)).1 = true ∧ DAt wr bd bs lvk (d.writes ((home ps).take k)).2 ∧ DStep bd bs lv lvk w wr) (fun i _ => ps.length - (intOf i).toNat)
  case atStart => exact ⟨0, lv, Nat.zero_le _, rfl, rfl, h, DStep.refl _ _ _ _⟩
  case round =>
    obtain ⟨k, lvk, hk, rfl, hok, hr, sr⟩ := hrel
    obtain ⟨okk, hsk, hlk⟩ := Dk.writes_ok _ _ hok ok ((unhide HT) k)
    have pr : ∀ o, (wr.alloc o).cell? ⟨bl, 0, none⟩ = some (.pointer (some ⟨bd, 0, none⟩)) := fun o => (World.cell?_alloc_past _ _ _ ((off.step sr).1.1)).trans ((off.cell sr 0).trans hp)
    have pr0 : wr.cell? ⟨bl, 0, none⟩ = some (.pointer (some ⟨bd, 0, none⟩)) := (off.cell sr 0).trans hp
    have hlkl : (d.writes ((home ps).take k)).2.late.length ≤ 900000 := by
      rw [hlk]; simp; omega
    have HOK := hide hok
    have HSK := hide hsk
    clear hok hsk hlk
    by_cases hlt : k < ps.length
    · obtain ⟨p, hpk⟩ : ∃ p, ps[k]? = some p := ⟨ps[k], List.getElem?_eq_getElem hlt⟩
      obtain ⟨g, capx, he, cA, cB, lg⟩ := row_at hq.own k p hpk
      have hao : ao = some ⟨g, 0, none⟩ := by
        simp only [Value.slice.injEq] at he
        exact he.1
      subst hao
      clear he
      have og := hq.off g rfl
      have cA' := (og.cell sr (k * 2)).trans cA
      have cB' := (og.cell sr (k * 2 + 1)).trans cB
      have hz' := hz p (List.mem_of_getElem? hpk)
      have hx := home_at ps k p hpk
      have hp4 := hb4 p (List.mem_of_getElem? hpk)
      have HX := hide hx
      clear hx hpk
      have i0 : (0 : Int) ≤ (k : Int) := Int.natCast_nonneg _
      have i1 : (k : Int) < (ps.length : Int) := by omega
      have hlen : (90 : Int) + (p.1 : Int) < ((d.writes ((home ps).take k)).2.safe.length : Int) := by rw [unhide HSK]; omega
      have hn := ok.n
      have hwr : IntKind.i64.wrap (90 + (p.1 : Int)) = 90 + (p.1 : Int) := by rw [IntKind.wrap_i64]; omega
      cases hw : ((d.writes ((home ps).take k)).2.write (90 + p.1) p.2).1 with
      | false =>
        have HF : Hid (d.through (home ps) [] = (false, ((d.writes ((home ps).take k)).2.write (90 + p.1) p.2).2)) := by
          show d.through (home ps) [] = _
          have := Dk.writes_fail (unhide HX) (unhide HOK) hw
          simp [Dk.through, this, hw]
        have HW := hide hw
        clear hw
        go_wp2_with fail
        go_region_with ((go_at_call 185; go_must (refine (write_any _ bd bs lvk (d.writes ((home ps).take k)).2 (90 + (p.1 : Int)) p.2 ?_ okk ?_ ?_ hz' ?_).mono ?_; (· exact (hr.alloc _).drew); (· omega); (· omega); (· omega); rintro e w2 ⟨lv2, rfl, h2, st2⟩; rw [show ((90 : Int) + (p.1 : Int)).toNat = 90 + p.1 by omega] at h2 ⊢; rw [unhide HW])))
        all_goals
          go_wp2_with fail
          go_ret
          exact ⟨lv2, by rw [unhide HF]; rfl, by rw [unhide HF]; exact h2, (sr.alloc _).drew.trans st2⟩
      | true =>
        have HW := hide hw
        clear hw
        go_wp2_with fail
        go_region_with ((go_at_call 185; go_must (refine (write_any _ bd bs lvk (d.writes ((home ps).take k)).2 (90 + (p.1 : Int)) p.2 ?_ okk ?_ ?_ hz' ?_).mono ?_; (· exact (hr.alloc _).drew); (· omega); (· omega); (· omega); rintro e w2 ⟨lv2, rfl, h2, st2⟩; rw [show ((90 : Int) + (p.1 : Int)).toNat = 90 + p.1 by omega] at h2 ⊢; rw [unhide HW])))
        all_goals
          go_wp2_with fail
          go_roundw
          case rel =>
            refine ⟨k + 1, lv2, by omega, by go_num, ?_, ?_, (sr.alloc _).drew.trans st2⟩
            · rw [Dk.writes_next (unhide HX) (unhide HOK)]; exact unhide HW
            · rw [Dk.writes_next (unhide HX) (unhide HOK)]; exact h2
          case measure => simp [intOf]; omega
    · have hk' : (home ps).take k = home ps := List.take_of_length_le (by rw [unhide HRL]; omega)
      rw [hk'] at hr okk hlkl
      have hok := unhide HOK
      have hsk := unhide HSK
      rw [hk'] at hok hsk
      clear hk' HOK HSK
      have offr := (off.step sr).1
      cases hf : (d.writes (home ps)).2.flush.1 with
      | false =>
        have HF : Hid (d.through (home ps) [] = (false, (d.writes (home ps)).2.flush.2)) := by
          show d.through (home ps) [] = _
          simp [Dk.through, hok, hf]
        have HW := hide hf
        clear hf hok hsk
        go_wp2_with fail
        refine (flush_any _ bd bs lvk (d.writes (home ps)).2 hr okk (by omega)).mono ?_
        rintro e w2 ⟨lv2, rfl, h2, st2⟩
        rw [unhide HW]
        go_wp2_with fail
        go_ret
        exact ⟨lv2, by rw [unhide HF]; rfl, by rw [unhide HF]; exact h2, sr.trans st2⟩
      | true =>
        have HF : Hid (d.through (home ps) [] = (d.writes (home ps)).2.flush.2.setRec []) := by
          show d.through (home ps) [] = _
          simp [Dk.through, hok, hf]
        obtain ⟨ok3, hs3, hl3⟩ := Dk.flush_ok hf okk
        have hs4 : 0 < (d.writes (home ps)).2.flush.2.safe.length := by rw [hs3, lay_len, hsk]; omega
        have hl4 : (d.writes (home ps)).2.flush.2.late.length ≤ 900000 := by rw [hl3]; simp
        have HW := hide hf
        clear hf hok hsk hs3 hl3
        go_wp2_with fail
        refine (flush_any _ bd bs lvk (d.writes (home ps)).2 hr okk (by omega)).mono ?_
        rintro e w2 ⟨lv2, rfl, h2, st2⟩
        rw [unhide HW]
        have st02 := sr.trans st2
        have off2 := (off.step st02).1
        have p2 : w2.cell? ⟨bl, 0, none⟩ = some (.pointer (some ⟨bd, 0, none⟩)) := (off.cell st02 0).trans hp
        go_wp2_with fail
        refine (setRecord_any _ bl bd bs lv2 (.slice none 0 0) (d.writes (home ps)).2.flush.2 [] p2 off2 h2 (World.ownsRow_nil _ _ _ _) ok3 hs4 hl4 (by simp) (by simp)).mono ?_
        rintro e w3 ⟨lv3, rfl, h3, st3⟩
        go_wp2_with fail
        go_ret
        exact ⟨lv3, by rw [unhide HF]; rfl, by rw [unhide HF]; exact h3, st02.trans st3⟩
end Go.Proofs.YtcbindgpbeaebaaGreatDoor

namespace Go.Proofs.YtcbindgpbeaebaaGreatDoor
open Go.RowKit Go.Deep
attribute [local go_sem ↓] Go.wp_at_zero Go.wp_at_succ

/-- The numbers, cell by cell. -/
def ncells (ps : List (Nat × ByteArray)) : List Value := ps.map fun p => .int .i64 (p.1 : Int)
theorem info_int : (Tryz.prog.info? 3).map (fun i => (i.zero, i.size, i.bytes)) = some (some (.int .i64 0), 1, 8) := by kernel_rfl

/-- A record that tells the numbers of these. -/
structure Tells (t : ByteArray) (ps : List (Nat × ByteArray)) : Prop where
  size : t.size = 256
  n : ∀ hh, (t[0]'hh).toNat = ps.length
  hi : ∀ i p hh, ps[i]? = some p → (t[1 + 2 * i]'hh).toNat = p.1 / 256
  lo : ∀ i p hh, ps[i]? = some p → (t[2 + 2 * i]'hh).toNat = p.1 % 256

theorem orb_all : ∀ (q : Fin 16) (r : Fin 256), bits BinOp.or IntKind.i64 ((q.val : Int) * 256) (r.val : Int) = (q.val : Int) * 256 + (r.val : Int) := by decide +kernel
theorem orb (a : Nat) (h : a < 4096) : bits BinOp.or IntKind.i64 ((a : Int) / 256 * 256) ((a : Int) % 256) = (a : Int) := by
  have := orb_all ⟨a / 256, by omega⟩ ⟨a % 256, by omega⟩
  simp only at this
  rw [show ((a : Int) / 256) = ((a / 256 : Nat) : Int) by omega, show ((a : Int) % 256) = ((a % 256 : Nat) : Int) by omega, this]
  omega

set_option maxRecDepth 100000 in
set_option maxHeartbeats 3200000 in
theorem recorded_any (w : World) (bl bd bs : Nat) (lv : Value) (d : Dk) (t : ByteArray) (ps : List (Nat × ByteArray)) (hp : w.cell? ⟨bl, 0, none⟩ = some (.pointer (some ⟨bd, 0, none⟩))) (h : DAt w bd bs lv d) (hn : d.safe.length ≤ 4096) (ht : Tells t ps) (hl : ps.length ≤ 80) (hb4 : ∀ p ∈ ps, 90 + p.1 < d.safe.length) :
    Calls Tryz.prog 184 #[.pointer (some ⟨bl, 0, none⟩), .string t] w fun e w' => ∃ v, e = .returned v ∧ w'.ownsRow w.heap.size 3 1 v ps.length (ncells ps) ∧ Below w.heap.size w w' := by
  obtain ⟨hsz, hn0, hhi, hlo⟩ := ht
  have HHI := hide hhi
  have HLO := hide hlo
  clear hhi hlo
  obtain ⟨i0, hi0, hz0, hz1, hz2⟩ := info_parts info_int
  go_enter Tryz.func184, Tryz.ntmps184
  go_wp2_with fail
  go_loopw [6, 15] (fun v i wr => ∃ k : Nat, k ≤ ps.length ∧ i = .int .i64 k ∧ wr.ownsRow w.heap.size 3 1 v k (ncells (ps.take k)) ∧ Below w.heap.size w wr) (fun _ i _ => ps.length - (intOf i).toNat)
  case atStart => exact ⟨0, Nat.zero_le _, rfl, World.ownsRow_nil _ _ _ _, Below.refl _ _⟩
  case round =>
    obtain ⟨k, hk, rfl, hown, hb⟩ := hrel
    by_cases hlt : k < ps.length
    · obtain ⟨p, hpk⟩ : ∃ p, ps[k]? = some p := ⟨ps[k], List.getElem?_eq_getElem hlt⟩
      have hp4 := hb4 p (List.mem_of_getElem? hpk)
      have e1 : (1 + 2 * (k : Int)).toNat = 1 + 2 * k := by omega
      have e2 : (2 + 2 * (k : Int)).toNat = 2 + 2 * k := by omega
      have g1 : ∀ hh, (t[(1 + 2 * (k : Int)).toNat]'hh).toNat = p.1 / 256 := by
        intro hh
        simp only [e1]
        exact (unhide HHI) k p _ hpk
      have g2 : ∀ hh, (t[(2 + 2 * (k : Int)).toNat]'hh).toNat = p.1 % 256 := by
        intro hh
        simp only [e2]
        exact (unhide HLO) k p _ hpk
      clear e1 e2
      have b1 : (0 : Int) ≤ 1 + 2 * (k : Int) := by omega
      have b2 : 1 + 2 * (k : Int) < 256 := by omega
      have b3 : (0 : Int) ≤ 2 + 2 * (k : Int) := by omega
      have b4 : 2 + 2 * (k : Int) < 256 := by omega
      have v1 : IntKind.i64.wrap (2 * (k : Int)) = 2 * (k : Int) := by rw [IntKind.wrap_i64]; omega
      have v2 : IntKind.i64.wrap (1 + 2 * (k : Int)) = 1 + 2 * (k : Int) := by rw [IntKind.wrap_i64]; omega
      have v3 : IntKind.i64.wrap (2 + 2 * (k : Int)) = 2 + 2 * (k : Int) := by rw [IntKind.wrap_i64]; omega
      have HP := hide hpk
      clear hpk
      have hsz' := hb.size
      have hor := orb p.1 (by omega)
      have hh : hasB d.safe.length (p.1 : Int) = true := by simp [hasB]; omega
      have HH := hide hh
      clear hh
      have hbd := hb.mono (B' := w.heap.size) (Nat.le_refl _)
      have pr : wr.drew.cell? ⟨bl, 0, none⟩ = some (.pointer (some ⟨bd, 0, none⟩)) := (hb.cell (p := ⟨bl, 0, none⟩) (World.block_lt_of_cell? w _ hp)).trans hp
      have dr := (h.below hb).drew
      go_wp2_with fail
      go_region
      go_wp2_with fail
      refine (has_any _ bl bd bs lv d (p.1 : Int) pr dr hn).mono ?_
      rintro e w1 ⟨rfl, rfl⟩
      rw [unhide HH]
      go_wp2_with (at_builtin; refine wpList_append_lies _ (by rfl) _ _ _ (by rfl) w.heap.size 3 i0 _ 1 8 Tryz.underlying36 hi0 hz0 hz1 hz2 rfl (by omega) _ k (ncells (ps.take k)) (by rfl) ((hown.alloc _).drew) ⟨wr.heap.size, 0, none⟩ 1 1 [.int .i64 (p.1 : Int)] (by rfl) (by rfl) (World.news_of_block (cs := #[.int .i64 (p.1 : Int)]) (t := 3) (fr := (0, 0)) (heap_alloc_new wr _)) (by simp [Value.oneCell']) (by omega) (by simp [maxLen]; omega) (by omega) (by simp; omega) (wr.heap.size + 1) (by simp) ?_; intro gg cap2 w2 hown1 hgrow hat hlt2)
      go_roundw
      case rel =>
        refine ⟨k + 1, by omega, by go_num, ?_, ?_⟩
        · rw [show ps.take (k + 1) = ps.take k ++ [p] by rw [List.take_add_one, unhide HP]; rfl, show ncells (ps.take k ++ [p]) = ncells (ps.take k) ++ [.int .i64 (p.1 : Int)] by simp [ncells]]
          exact hown1
        · exact ((hb.alloc hsz' _).drew).grown hgrow (by simp; omega) (fun q hq' => (hown.lt q hq').1)
      case measure => simp [intOf]; omega
    · have hk' : k = ps.length := by omega
      subst hk'
      rw [List.take_length] at hown
      obtain ⟨ao, cap, rfl⟩ : ∃ ao cap, u6 = .slice ao ps.length cap := by
        rcases hown.2 with ⟨h1, h2⟩ | ⟨g, cap, _, h1, _⟩
        · exact ⟨none, 0, by rw [h1, h2]⟩
        · exact ⟨_, cap, h1⟩
      go_wp2_with fail
      go_ret
      exact ⟨_, rfl, hown, hb⟩
end Go.Proofs.YtcbindgpbeaebaaGreatDoor
