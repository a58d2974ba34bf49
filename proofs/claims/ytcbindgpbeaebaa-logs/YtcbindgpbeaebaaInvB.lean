import Derived.Test.YtcbindgpbeaebaaStepF
import Derived.Test.YtcbindgpbeaebaaSmallB
import Derived.Test.YtcbindgpbeaebaaPureE
namespace Go.Proofs.Ytcbindgpbeaebaa
open Go.RowKit Go.Deep

theorem Dk.write_wf {d : Dk} (h : d.Well) (a : Nat) (s : ByteArray) : (d.write a s).2.failed = d.failed := by
  simp only [Dk.write, Dk.changes_well h, if_true]
theorem Dk.flush_wf {d : Dk} (h : d.Well) : d.flush.2.failed = d.failed := by
  simp only [Dk.flush, Dk.changes_well h, if_true]
theorem Dk.writes_wf : ∀ (T : List (Nat × ByteArray)) (d : Dk), d.Well → (d.writes T).2.failed = d.failed
  | [], d, h => rfl
  | x :: r, d, h => by
    obtain ⟨a, b⟩ := Dk.write_well h x.1 x.2
    simp only [Dk.writes, a, if_true]
    rw [Dk.writes_wf r _ b, Dk.write_wf h]
theorem Dk.through_wf {d : Dk} (h : d.Well) (T ps : List (Nat × ByteArray)) : (d.through T ps).2.failed = d.failed := by
  obtain ⟨a, b⟩ := Dk.writes_well T d h
  obtain ⟨a1, b1⟩ := Dk.flush_well b
  obtain ⟨a2, b2⟩ := Dk.write_well b1 0 (recB ps)
  simp only [Dk.through, a, a1, if_true, Dk.setRec, a2]
  rw [Dk.flush_wf b2, Dk.write_wf b1, Dk.flush_wf b, Dk.writes_wf T d h]
theorem Dk.redo_wf {d : Dk} (h : d.Well) (ps : List (Nat × ByteArray)) : (d.redo ps).2.failed = d.failed := by
  obtain ⟨a, b⟩ := Dk.flush_well h
  have hl : ¬ d.flush.2.life = 0 := by rw [b.2]; omega
  simp only [Dk.redo, a, if_true, if_neg hl]
  split
  · exact Dk.flush_wf h
  · rw [Dk.through_wf b, Dk.flush_wf h]

/-- Open on a disk that neither fails nor dies: the number of failed calls is as it was. -/
theorem opens_calm (w : World) (B bw N : Nat) (f : Int) (bd bs : Nat) (xv lv : Value) (d : Dk) (R R2 : Rf) (sv rv sv2 rv2 : Value) (tw : Bool) (S : List ByteArray) (pend : Option (List (Nat × ByteArray))) (h : Inv w B bw N f bd bs xv lv d R R2 sv rv sv2 rv2 tw S pend) (hw : d.Well) (hf : f + 1 ≤ 9223372036854775806) (hN : 90 < N) :
    Calls Try.prog 19 #[.pointer (some ⟨bw, 0, none⟩)] w fun e w' => e = .returned (.bool true) ∧ InvE w' B bw N f ∧ Below B w w' := by
  have hn := h.n
  have hsn := h.sn
  have hfl := h.fl
  have hl2 := h.late
  obtain ⟨psR, a1, a2, a3, a4, a5, a6, a7, a8, a9⟩ := open_stands d S pend h.ok (by omega) (by omega) (by omega) h.st
  have a6 : (d.redo psR).2.failed ≤ d.failed := Int.le_of_eq (Dk.redo_wf hw psR)
  have fc : ∀ c, ({ d with cap := c } : Dk).flush = (d.flush.1, { d.flush.2 with cap := c }) := fun c => Dk.flush_wc d c
  have rc : ∀ c, ({ d with cap := c } : Dk).redo psR = ((d.redo psR).1, { (d.redo psR).2 with cap := c }) := fun c => Dk.redo_wc d c psR
  have t3 : ∀ c, (({ d with cap := c } : Dk).flush.1 = true → Tells (({ d with cap := c } : Dk).flush.2.read 0) psR) := fun c => by rw [fc c]; exact a3
  have t4 : ∀ c, (∀ p ∈ inRoom ({ d with cap := c } : Dk).flush.2 0 psR, p.2.size ≤ 256) := fun c => by rw [fc c]; simp only [inRoom_cap]; exact a4
  rcases a9 with ⟨q1, q2, q3⟩ | ⟨q1, q2, q3⟩
  · refine (opens_fail w B bw bd bs xv lv d R R2 sv rv sv2 rv2 tw tw (fun D => D.Ok ∧ D.failed ≤ d.failed ∧ D.safe.length = N ∧ D.late.length ≤ 200 ∧ Stands S pend D) h.disk h.own h.hB h.bw0 h.r1 h.r2 h.ok (by omega) (by omega) ?_).mono ?_
    · intro c
      refine ⟨psR, a1, a2, t3 c, t4 c, ?_⟩
      rw [rc c]
      exact ⟨q1, q3, by simp only; omega, a5.cap c, a6, by simp only; omega, by simp only; omega, q2.cap c⟩
    · rintro e w' ⟨D, bd', bs', lv', rfl, ⟨x1, x2, x3, x4, x5⟩, hd, hw, r1, r2, hb, b1, b2, b3⟩
      refine ⟨rfl, ⟨bd', bs', .pointer none, lv', D, R, R2, sv, rv, sv2, rv2, tw, S, pend, ?_⟩, hb⟩
      exact { disk := hd, own := hw, r1 := r1, r2 := r2, hB := Nat.le_trans h.hB hb.size, bw0 := h.bw0, bd0 := b1, bs0 := b2, lv0 := b3, ok := x1, fl := by omega, n := x3, sn := hsn, late := x4, st := x5, g1 := h.g1, g2 := h.g2, cont := h.cont, two := h.two, log := .inl rfl }
  · have hlife : (d.life == 0) = false := by rw [hw.2]; rfl
    have hrd : ∀ i, (d.redo psR).2.read i = rd (d.redo psR).2.safe i := fun i => read_rd q2 i
    have hclr : rd (d.redo psR).2.safe 0 = pad (recB []) := by
      rcases q3 with q3 | ⟨_, _, q3⟩
      · exact q3.1
      · exact q3.1
    have hsame : SameB (d.redo psR).2 R ∨ (tw = true ∧ SameB (d.redo psR).2 R2) := by
      rcases q3 with q3 | ⟨ps, hp, q3⟩
      · exact .inl fun i hi => by rw [hrd, q3.2 i (by omega)]; exact h.cont i (by omega)
      · obtain ⟨e1, e2⟩ := h.two.2 ps hp
        exact .inr ⟨e1, fun i hi => by rw [hrd, q3.2 i (by omega), e2 i (by omega), h.cont i (by omega)]⟩
    refine (opens_ok w B bw bd bs xv lv d R R2 sv rv sv2 rv2 tw tw (fun D => D.Ok ∧ D.failed ≤ d.failed ∧ D.safe.length = N ∧ D.late = [] ∧ rd D.safe 0 = pad (recB [])) h.disk h.own h.hB h.bw0 h.r1 h.r2 h.ok (by omega) (by omega) hlife ?_).mono ?_
    · intro c
      refine ⟨psR, a1, a2, t3 c, t4 c, ?_⟩
      rw [rc c]
      exact ⟨q1, a5.cap c, by simp only; omega, q2, hclr, hsame, a5.cap c, a6, by simp only; omega, q2, hclr⟩
    · rintro e w' ⟨D, bl', bd', bs', lv', Rn, svn, rfl, ⟨x1, x2, x3, x4, x5⟩, s', hk, hsm, hw, r1, r2, hb⟩
      have gn : Good N Rn := by
        rcases hk with rfl | ⟨_, rfl⟩
        · exact h.g1
        · exact h.g2
      refine ⟨rfl, ⟨bd', bs', .pointer (some ⟨bl', 0, none⟩), lv', D, { Rn with put := [] }, R2, svn, .slice none 0 0, sv2, rv2, false, D.safe, none, ?_⟩, hb⟩
      exact { disk := s'.disk, own := hw, r1 := r1, r2 := r2, hB := s'.base, bw0 := h.bw0, bd0 := s'.sep.bd0, bs0 := s'.sep.bs0, lv0 := s'.sep.bv0, ok := x1, fl := by omega, n := x3, sn := x3, late := by rw [x4]; simp, st := ⟨x4, x5, fun _ _ => rfl⟩, g1 := gn.drop, g2 := h.g2, cont := fun i hi => by rw [← read_rd x4, hsm i (by omega)]; rfl, two := ⟨fun _ => rfl, fun ps e => by cases e⟩, log := .inr ⟨bl', .slice none 0 0, [], rfl, s', RelP.nil, by simp, by simp⟩ }

/-- Ahead of the first step. -/
def Fresh (w : World) (B bw N : Nat) : Prop := ∃ bd bs lv d R R2 sv rv sv2 rv2 tw S pend, Inv w B bw N 0 bd bs (.pointer none) lv d R R2 sv rv sv2 rv2 tw S pend ∧ d.Well
theorem Inv.back {w w' : World} {B bw N : Nat} {f : Int} {bd bs : Nat} {xv lv lv' : Value} {d d' : Dk} {R R2 : Rf} {sv rv sv2 rv2 : Value} {tw : Bool} {S : List ByteArray} {pend : Option (List (Nat × ByteArray))} (h : Inv w B bw N f bd bs xv lv d R R2 sv rv sv2 rv2 tw S pend) (hd : DAt w' bd bs lv' d') (st : DStep bd bs lv lv' w w') (ok : d'.Ok) (hf : d'.failed = d.failed) (hn : d'.safe.length = N) (hl : d'.late.length ≤ 200) (hs : Stands S pend d') : InvE w' B bw N f ∧ Below B w w' :=
  ⟨⟨bd, bs, xv, lv', _, R, R2, sv, rv, sv2, rv2, tw, S, pend, h.ofDisk hd st ok (by rw [hf]; exact h.fl) hn hl hs⟩, st.below h.bd0 h.bs0 h.lv0 h.hB⟩
theorem step_first (w : World) (B bw N : Nat) (h : Fresh w B bw N) (hN : 90 < N) (k n : Int) (s : ByteArray) (ao : Option Addr) (kn kc : Nat) (ks : List Int) (hn : n ≤ 9223372036854775807)
    (hk : IntsAt w (.slice ao kn kc) ks) (hl : ∀ b o m c, Value.slice ao kn kc = .slice (some ⟨b, o, none⟩) m c → 0 < m → b < B) :
    Calls Try.prog 9 #[.pointer (some ⟨bw, 0, none⟩), .agg #[.int .i64 k, .int .i64 n, .string s, .slice ao kn kc]] w fun e w' => e = .returned (.bool true) ∧ InvE w' B bw N 0 ∧ Below B w w' := by
  obtain ⟨bd, bs, lv, d, R, R2, sv, rv, sv2, rv2, tw, S, pend, h, hw⟩ := h
  have hbw := lt_of_heap h.own
  obtain ⟨⟨x0, x1, _⟩, xz⟩ := wcell h.own
  have ha : ∀ o, Inv (w.alloc o) B bw N 0 bd bs (.pointer none) lv d R R2 sv rv sv2 rv2 tw S pend := fun o => h.below (Below.new w o)
  have hb : ∀ o, Below B w (w.alloc o) := fun o => (Below.new w o).mono h.hB
  have hd : ∀ o, Inv (w.alloc o).drew B bw N 0 bd bs (.pointer none) lv d R R2 sv rv sv2 rv2 tw S pend := fun o => (ha o).below (Below.refl _ _).drew
  have ok := h.ok
  have hz := nonNeg_le hn
  by_cases k1 : k = 1
  · subst k1
    refine step_open w bw n s _ (fun w' => InvE w' B bw N 0 ∧ Below B w w') fun o => (opens_calm (w.alloc o) B bw N 0 bd bs (.pointer none) lv d R R2 sv rv sv2 rv2 tw S pend (ha o) hw (by omega) hN).mono ?_
    rintro e w' ⟨he, hi, hbb⟩
    exact ⟨he, hi, (hb o).trans hbb⟩
  by_cases k2 : k = 11
  · subst k2
    refine step_fail w bw bd n s _ (fun w' => InvE w' B bw N 0 ∧ Below B w w') hbw x0 fun o => (fail_any (w.alloc o).drew bd bs lv d n (hd o).disk).mono ?_
    rintro e w' ⟨he, hdd, st⟩
    obtain ⟨u1, u2⟩ := (hd o).back hdd st ⟨by simp only; omega, by simp only; omega, ok.l0, ok.l1, ok.f0, ok.f1, ok.n, ok.lt⟩ rfl h.n h.late (h.st.wait _)
    exact ⟨he, u1, (hb o).drew.trans u2⟩
  by_cases k3 : k = 12
  · subst k3
    refine step_die w bw bd n s _ (fun w' => InvE w' B bw N 0 ∧ Below B w w') hbw x0 fun o => (die_all (w.alloc o).drew bd bs lv d n (hd o).disk).mono ?_
    rintro e w' ⟨he, hdd, st⟩
    obtain ⟨u1, u2⟩ := (hd o).back hdd st ⟨ok.w0, ok.w1, by simp only; omega, by simp only; omega, ok.f0, ok.f1, ok.n, ok.lt⟩ rfl h.n h.late (h.st.life _)
    exact ⟨he, u1, (hb o).drew.trans u2⟩
  by_cases k4 : k = 13
  · subst k4
    have hc : ∀ o, Inv ((w.setCell ⟨bw, 1, none⟩ (.pointer none)).alloc o).drew B bw N 0 bd bs (.pointer none) lv d R R2 sv rv sv2 rv2 tw S pend := fun o => (h.noLog.below (Below.new _ o)).below (Below.refl _ _).drew
    have hcb : ∀ o, Below B w ((w.setCell ⟨bw, 1, none⟩ (.pointer none)).alloc o).drew := fun o => (((Below.refl B w).setCell h.bw0 _).alloc h.noLog.hB o).drew
    have hlt := h.late
    have b1 := h.bd0
    have b2 := h.bs0
    refine step_crash w bw bd n s ao kn kc (fun w' => InvE w' B bw N 0 ∧ Below B w w') hbw x0 _ x1 xz fun o => (crash_any _ bd bs lv (.slice ao kn kc) d ks (hc o).disk ok (by omega) (hk.under (hcb o) hl) ?_).mono ?_
    · intro b o' m c e hm
      have := hl b o' m c e hm
      have := (hc o).hB
      exact ⟨by omega, by omega, by omega, fun e => by have := h.lv0 b e; omega⟩
    rintro e w' ⟨lv', he, hdd, st⟩
    have hsl : (d.crash ks).safe.length = d.safe.length := lay_len _ _
    obtain ⟨u1, u2⟩ := (hc o).back hdd st ⟨by simp [Dk.crash], by simp [Dk.crash], by simp [Dk.crash], by simp [Dk.crash], ok.f0, ok.f1, by rw [hsl]; exact ok.n, by simp [Dk.crash]⟩ rfl (by rw [hsl]; exact h.n) (by simp [Dk.crash]) (h.st.crash _)
    exact ⟨he, u1, (hcb o).trans u2⟩
  refine (step_nil w bw k n s _ hbw x1 (by simpa using k1) (by simpa using k2) (by simpa using k3) (by simpa using k4)).mono ?_
  rintro e w' ⟨he, o, rfl⟩
  exact ⟨he, ⟨bd, bs, .pointer none, lv, d, R, R2, sv, rv, sv2, rv2, tw, S, pend, ha o⟩, hb o⟩

/-- Ahead of step k of the law's script. -/
def At (w : World) (B bw k : Nat) : Prop := InvSE w B bw ∨ ∃ N, 90 < N ∧ InvE w B bw N ((k - 1 : Nat) : Int) ∧ (k = 0 → Fresh w B bw N)
theorem step_at (w : World) (B bw i : Nat) (h : At w B bw i) (hi : i ≤ 9223372036854775806) (k n : Int) (s : ByteArray) (ao : Option Addr) (kn kc : Nat) (ks : List Int) (hn : n ≤ 9223372036854775807)
    (hk : IntsAt w (.slice ao kn kc) ks) (hl : ∀ b o m c, Value.slice ao kn kc = .slice (some ⟨b, o, none⟩) m c → 0 < m → b < B) :
    Calls Try.prog 9 #[.pointer (some ⟨bw, 0, none⟩), .agg #[.int .i64 k, .int .i64 n, .string s, .slice ao kn kc]] w fun e w' => e = .returned (.bool true) ∧ At w' B bw (i + 1) ∧ Below B w w' := by
  rcases h with h | ⟨N, hN, h, h0⟩
  · refine (step_small w B bw h k n s ao kn kc).mono ?_
    rintro e w' ⟨he, a, b⟩
    exact ⟨he, .inl a, b⟩
  · by_cases hz : i = 0
    · subst hz
      refine (step_first w B bw N (h0 rfl) hN k n s ao kn kc ks hn hk hl).mono ?_
      rintro e w' ⟨he, a, b⟩
      exact ⟨he, .inr ⟨N, hN, a, fun e => by omega⟩, b⟩
    · refine (step_inv w B bw N _ h (by omega) hN k n s ao kn kc ks hn hk hl).mono ?_
      rintro e w' ⟨he, a, b⟩
      have e1 : (((i - 1 : Nat) : Int) + 1) = ((i + 1 - 1 : Nat) : Int) := by omega
      rw [e1] at a
      exact ⟨he, .inr ⟨N, hN, a, fun e => by omega⟩, b⟩
theorem At.below {w w' : World} {B bw i : Nat} (h : At w B bw i) (hb : Below w.heap.size w w') : At w' B bw i := by
  rcases h with ⟨bd, sv, lv, S, wt, lf, fd, R, R2, s1, r1, s2, r2, h⟩ | ⟨N, hN, h, h0⟩
  · exact .inl ⟨bd, sv, lv, S, wt, lf, fd, R, R2, s1, r1, s2, r2, h.below hb⟩
  · refine .inr ⟨N, hN, h.below hb, fun e => ?_⟩
    obtain ⟨bd, bs, lv, d, R, R2, sv, rv, sv2, rv2, tw, S, pend, h, hw⟩ := h0 e
    exact ⟨bd, bs, lv, d, R, R2, sv, rv, sv2, rv2, tw, S, pend, h.below hb, hw⟩
end Go.Proofs.Ytcbindgpbeaebaa
