import Derived.Test.YtcbindgpbeaebaaStepE
namespace Go.Proofs.Ytcbindgpbeaebaa
open Go.RowKit Go.Deep

section
variable {w : World} {B bw N : Nat} {f : Int} {bd bs : Nat} {xv lv : Value} {d : Dk} {R R2 : Rf} {sv rv sv2 rv2 : Value} {tw : Bool} {S : List ByteArray} {pend : Option (List (Nat × ByteArray))}
theorem Inv.noLog (h : Inv w B bw N f bd bs xv lv d R R2 sv rv sv2 rv2 tw S pend) : Inv (w.setCell ⟨bw, 1, none⟩ (.pointer none)) B bw N f bd bs (.pointer none) lv d R R2 sv rv sv2 rv2 tw S pend :=
  { disk := h.disk.setOther h.own (by decide) (by decide) (by decide) 1 _, own := by rw [heap_setCell_same w bw 1 _ _ _ h.own]; rfl, r1 := h.r1.setOther h.own (by decide) 1 _, r2 := h.r2.setOther h.own (by decide) 1 _, hB := by simp [World.setCell]; exact h.hB, bw0 := h.bw0, bd0 := h.bd0, bs0 := h.bs0, lv0 := h.lv0, ok := h.ok, fl := h.fl, n := h.n, sn := h.sn, late := h.late, st := h.st, g1 := h.g1, g2 := h.g2, cont := h.cont, two := h.two, log := .inl rfl }
end

theorem put_inv (w : World) (B bw N : Nat) (f : Int) (bd bs bl : Nat) (pv lv : Value) (ps : List (Nat × ByteArray)) (d : Dk) (R R2 : Rf) (sv rv sv2 rv2 : Value) (tw : Bool) (S : List ByteArray) (pend : Option (List (Nat × ByteArray))) (h : Inv w B bw N f bd bs (.pointer (some ⟨bl, 0, none⟩)) lv d R R2 sv rv sv2 rv2 tw S pend)
    (sy : Sys w B bl bd bs pv lv ps tw d) (rel : RelP ps R.put) (h80 : ps.length ≤ 80) (hps : ∀ p ∈ ps, 90 + p.1 < N ∧ p.2.size = 256) (n : Int) (s : ByteArray) (kv : Value) :
    Calls Try.prog 9 #[.pointer (some ⟨bw, 0, none⟩), .agg #[.int .i64 2, .int .i64 n, .string s, kv]] w fun e w' => e = .returned (.bool true) ∧ Kp w B bw N f w' := by
  obtain ⟨e1, e2, e3, e4, e5⟩ := put_rel N R ps n s h.g1.many rel h80
  have hn := h.n
  have hlp := h.g1.lp
  refine (step_put w B bw bl bd bs pv lv ps d R R2 sv rv sv2 rv2 tw tw n s kv sy h.own h.bw0 h.r1 h.r2 h.ok.n h80 (by omega) (by rw [hn]; exact e1)).mono ?_
  rintro e w' ⟨rfl, pv', sv', rv', s', hw, r1, r2, hb⟩
  have hR : ({ (putR R n s).1 with many := R.many } : Rf) = (putR R n s).1 := by rw [← e5]
  rw [hR] at hw
  have hsu : ∀ i, sureR (putR R n s).1 i = sureR R i := fun i => by unfold sureR; rw [e4]
  rw [hn] at s'
  have hg := put_good N ps n s hps
  have hfl := h.fl
  refine ⟨rfl, ⟨bd, bs, .pointer (some ⟨bl, 0, none⟩), lv, d, (putR R n s).1, R2, sv', rv', sv2, rv2, tw, S, pend, ?_⟩, hb⟩
  exact { disk := s'.disk, own := hw, r1 := r1, r2 := r2, hB := s'.base, bw0 := h.bw0, bd0 := h.bd0, bs0 := h.bs0, lv0 := h.lv0, ok := h.ok, fl := by omega, n := hn, sn := h.sn, late := h.late, st := h.st, g1 := h.g1.put rel.n2 n s, g2 := h.g2, cont := fun i hi => by rw [hsu]; exact h.cont i hi, two := ⟨h.two.1, fun qs e => ⟨(h.two.2 qs e).1, fun i hi => by rw [hsu]; exact (h.two.2 qs e).2 i hi⟩⟩, log := .inr ⟨bl, pv', _, rfl, s', e2, e3, hg⟩ }

theorem drop_inv (w : World) (B bw N : Nat) (f : Int) (bd bs bl : Nat) (pv lv : Value) (ps : List (Nat × ByteArray)) (d : Dk) (R R2 : Rf) (sv rv sv2 rv2 : Value) (tw : Bool) (S : List ByteArray) (pend : Option (List (Nat × ByteArray))) (h : Inv w B bw N f bd bs (.pointer (some ⟨bl, 0, none⟩)) lv d R R2 sv rv sv2 rv2 tw S pend)
    (sy : Sys w B bl bd bs pv lv ps tw d) (n : Int) (s : ByteArray) (kv : Value) :
    Calls Try.prog 9 #[.pointer (some ⟨bw, 0, none⟩), .agg #[.int .i64 4, .int .i64 n, .string s, kv]] w fun e w' => e = .returned (.bool true) ∧ Kp w B bw N f w' := by
  have hfl := h.fl
  refine (step_drop w B bw bl bd bs pv lv ps d R R2 sv rv sv2 rv2 tw tw n s kv sy h.own h.bw0 h.r1 h.r2).mono ?_
  rintro e w' ⟨sv', rfl, s', hw, r1, r2, hb⟩
  refine ⟨rfl, ⟨bd, bs, .pointer (some ⟨bl, 0, none⟩), lv, d, { R with put := [] }, R2, sv', .slice none 0 0, sv2, rv2, tw, S, pend, ?_⟩, hb⟩
  exact { disk := s'.disk, own := hw, r1 := r1, r2 := r2, hB := s'.base, bw0 := h.bw0, bd0 := h.bd0, bs0 := h.bs0, lv0 := h.lv0, ok := h.ok, fl := by omega, n := h.n, sn := h.sn, late := h.late, st := h.st, g1 := h.g1.drop, g2 := h.g2, cont := h.cont, two := h.two, log := .inr ⟨bl, .slice none 0 0, [], rfl, s', RelP.nil, by simp, by simp⟩ }

theorem get_inv (w : World) (B bw N : Nat) (f : Int) (bd bs bl : Nat) (pv lv : Value) (ps : List (Nat × ByteArray)) (d : Dk) (R R2 : Rf) (sv rv sv2 rv2 : Value) (tw : Bool) (S : List ByteArray) (pend : Option (List (Nat × ByteArray))) (h : Inv w B bw N f bd bs (.pointer (some ⟨bl, 0, none⟩)) lv d R R2 sv rv sv2 rv2 tw S pend)
    (sy : Sys w B bl bd bs pv lv ps tw d) (rel : RelP ps R.put) (h80 : ps.length ≤ 80) (n : Int) (s : ByteArray) (kv : Value) :
    Calls Try.prog 9 #[.pointer (some ⟨bw, 0, none⟩), .agg #[.int .i64 3, .int .i64 n, .string s, kv]] w fun e w' => e = .returned (.bool true) ∧ Kp w B bw N f w' := by
  have hl2 := h.late
  have hsn := h.sn
  have hm : R.many = (d.safe.length : Int) - 90 := by rw [h.n]; exact h.g1.many
  refine (step_get w B bw bl bd bs pv lv ps d R R2 sv rv sv2 rv2 tw tw n s kv sy h.own h.r1 h.ok.n h80 (by omega) (getL d ps tw n) rfl ?_).mono ?_
  · cases hi : isR R.many n with
    | false => exact .inl ⟨rfl, get_not d ps tw n _ hm hi⟩
    | true =>
      right
      cases hz : (d.life == 0) with
      | true => exact .inl ⟨rfl, rfl, get_off d ps tw n _ hm hi (.inl (by simpa using hz))⟩
      | false =>
        right
        cases tw with
        | true => exact .inl ⟨rfl, rfl, rfl, get_off d ps true n _ hm hi (.inr rfl)⟩
        | false =>
          have hst := h.st
          rw [h.two.1 rfl] at hst
          obtain ⟨hlate, hA⟩ := hst
          exact .inr ⟨rfl, rfl, rfl, get_rel d R ps n N h.n h.g1.many rel hlate (fun i hi' => by rw [hA.2 i (by omega)]; exact h.cont i hi') hi (by simpa using hz)⟩
  · rintro e w' ⟨rfl, hb⟩
    exact ⟨rfl, ⟨bd, bs, .pointer (some ⟨bl, 0, none⟩), lv, d, R, R2, sv, rv, sv2, rv2, tw, S, pend, (h.below hb).more (by omega)⟩, hb.mono h.hB⟩

theorem step_inv (w : World) (B bw N : Nat) (f : Int) (h : InvE w B bw N f) (hf : f + 1 ≤ 9223372036854775806) (hN : 90 < N) (k n : Int) (s : ByteArray) (ao : Option Addr) (kn kc : Nat) (ks : List Int) (hn : n ≤ 9223372036854775807)
    (hk : IntsAt w (.slice ao kn kc) ks) (hl : ∀ b o m c, Value.slice ao kn kc = .slice (some ⟨b, o, none⟩) m c → 0 < m → b < B) :
    Calls Try.prog 9 #[.pointer (some ⟨bw, 0, none⟩), .agg #[.int .i64 k, .int .i64 n, .string s, .slice ao kn kc]] w fun e w' => e = .returned (.bool true) ∧ Kp w B bw N f w' := by
  have hE := h
  obtain ⟨bd, bs, xv, lv, d, R, R2, sv, rv, sv2, rv2, tw, S, pend, h⟩ := h
  have hbw := lt_of_heap h.own
  obtain ⟨⟨x0, x1, _⟩, xz⟩ := wcell h.own
  have ha : ∀ o, Inv (w.alloc o) B bw N f bd bs xv lv d R R2 sv rv sv2 rv2 tw S pend := fun o => h.below (Below.new w o)
  have hb : ∀ o, Below B w (w.alloc o) := fun o => (Below.new w o).mono h.hB
  have hd : ∀ o, Inv (w.alloc o).drew B bw N f bd bs xv lv d R R2 sv rv sv2 rv2 tw S pend := fun o => (ha o).below (Below.refl _ _).drew
  by_cases k1 : k = 1
  · subst k1
    refine step_open w bw n s _ (Kp w B bw N f) fun o => (opens_inv (w.alloc o) B bw N f (hE.below (Below.new w o)) hf hN).mono ?_
    rintro e w' ⟨he, hi, hbb⟩
    exact ⟨he, hi, (hb o).trans hbb⟩
  by_cases k2 : k = 11
  · subst k2
    refine step_fail w bw bd n s _ (Kp w B bw N f) hbw x0 fun o => (fail_inv (w.alloc o).drew B bw N f bd bs xv lv d R R2 sv rv sv2 rv2 tw S pend (hd o) n hn).mono ?_
    rintro e w' ⟨he, hi⟩
    exact ⟨he, hi.from (hb o).drew⟩
  by_cases k3 : k = 12
  · subst k3
    refine step_die w bw bd n s _ (Kp w B bw N f) hbw x0 fun o => (die_inv (w.alloc o).drew B bw N f bd bs xv lv d R R2 sv rv sv2 rv2 tw S pend (hd o) n hn).mono ?_
    rintro e w' ⟨he, hi⟩
    exact ⟨he, hi.from (hb o).drew⟩
  by_cases k4 : k = 13
  · subst k4
    have hc : ∀ o, Inv ((w.setCell ⟨bw, 1, none⟩ (.pointer none)).alloc o).drew B bw N f bd bs (.pointer none) lv d R R2 sv rv sv2 rv2 tw S pend := fun o => (h.noLog.below (Below.new _ o)).below (Below.refl _ _).drew
    have hcb : ∀ o, Below B w ((w.setCell ⟨bw, 1, none⟩ (.pointer none)).alloc o).drew := fun o => (((Below.refl B w).setCell h.bw0 _).alloc h.noLog.hB o).drew
    refine step_crash w bw bd n s ao kn kc (Kp w B bw N f) hbw x0 _ x1 xz fun o => (crash_inv _ B bw N f bd bs (.pointer none) lv d R R2 sv rv sv2 rv2 tw S pend (hc o) (.slice ao kn kc) ks (hk.under (hcb o) hl) hl).mono ?_
    rintro e w' ⟨he, hi⟩
    exact ⟨he, hi.from (hcb o)⟩
  have q1 : (k == 1) = false := by simpa using k1
  have q2 : (k == 11) = false := by simpa using k2
  have q3 : (k == 12) = false := by simpa using k3
  have q4 : (k == 13) = false := by simpa using k4
  rcases h.log with e | ⟨bl, pv, ps, e, sy, rel, h80, hps⟩
  · subst e
    refine (step_nil w bw k n s _ hbw x1 q1 q2 q3 q4).mono ?_
    rintro e w' ⟨he, o, rfl⟩
    exact ⟨he, (hE.below (Below.new w o)).more (by omega), hb o⟩
  · subst e
    by_cases j2 : k = 2
    · subst j2
      exact put_inv w B bw N f bd bs bl pv lv ps d R R2 sv rv sv2 rv2 tw S pend h sy rel h80 hps n s _
    by_cases j3 : k = 3
    · subst j3
      exact get_inv w B bw N f bd bs bl pv lv ps d R R2 sv rv sv2 rv2 tw S pend h sy rel h80 n s _
    by_cases j4 : k = 4
    · subst j4
      exact drop_inv w B bw N f bd bs bl pv lv ps d R R2 sv rv sv2 rv2 tw S pend h sy n s _
    by_cases j5 : k = 5
    · subst j5
      refine step_commit w bw bl n s _ (Kp w B bw N f) hbw x1 fun o => (commits_inv (w.alloc o) B bw N f bd bs bl lv d R R2 sv rv sv2 rv2 tw S pend (ha o) hf hN).mono ?_
      rintro e w' ⟨he, hi, hbb⟩
      exact ⟨he, hi, (hb o).trans hbb⟩
    by_cases j6 : k = 6
    · subst j6
      refine (step_blocks w B bw bl bd bs pv lv ps tw d n s _ hbw sy h.ok.n x0 x1).mono ?_
      rintro e w' ⟨he, o, rfl⟩
      exact ⟨he, (hE.below (Below.new w o)).more (by omega), hb o⟩
    refine (step_other w bw bl k n s _ hbw x1 q1 q2 q3 q4 (by simpa using j2) (by simpa using j3) (by simpa using j4) (by simpa using j5) (by simpa using j6)).mono ?_
    rintro e w' ⟨he, o, rfl⟩
    exact ⟨he, (hE.below (Below.new w o)).more (by omega), hb o⟩
end Go.Proofs.Ytcbindgpbeaebaa
