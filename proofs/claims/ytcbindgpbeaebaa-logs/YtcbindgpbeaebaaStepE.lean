import Derived.Test.YtcbindgpbeaebaaStepD
namespace Go.Proofs.Ytcbindgpbeaebaa
open Go.RowKit Go.Deep

theorem IntsAt.under {w w' : World} {v : Value} {ks : List Int} {B : Nat} (h : IntsAt w v ks) (hb : Below B w w') (hl : ∀ b o n c, v = .slice (some ⟨b, o, none⟩) n c → 0 < n → b < B) : IntsAt w' v ks := by
  obtain ⟨⟨ao, cap, hv, hc⟩, hr⟩ := h
  refine ⟨⟨ao, cap, hv, fun i c hi => ?_⟩, hr⟩
  obtain ⟨b, o, ha, hcell⟩ := hc i c hi
  have hlen : 0 < ks.length := by
    cases ks with
    | nil => simp at hi
    | cons => simp
  subst ha
  exact ⟨b, o, rfl, (World.cell?_of_block (hb.block b (hl b o _ _ hv hlen))).trans hcell⟩

section
variable {w w' : World} {B bw N : Nat} {f f' : Int} {bd bs : Nat} {xv lv lv' : Value} {d d' : Dk} {R R2 : Rf} {sv rv sv2 rv2 : Value} {tw : Bool} {S : List ByteArray} {pend : Option (List (Nat × ByteArray))}
theorem Inv.below (h : Inv w B bw N f bd bs xv lv d R R2 sv rv sv2 rv2 tw S pend) (hb : Below w.heap.size w w') : Inv w' B bw N f bd bs xv lv d R R2 sv rv sv2 rv2 tw S pend :=
  { disk := h.disk.below hb, own := (hb.block bw (lt_of_heap h.own)).trans h.own, r1 := h.r1.below hb, r2 := h.r2.below hb, hB := Nat.le_trans h.hB hb.size, bw0 := h.bw0, bd0 := h.bd0, bs0 := h.bs0, lv0 := h.lv0, ok := h.ok, fl := h.fl, n := h.n, sn := h.sn, late := h.late, st := h.st, g1 := h.g1, g2 := h.g2, cont := h.cont, two := h.two,
    log := by
      rcases h.log with e | ⟨bl, pv, ps, e, s, r⟩
      · exact .inl e
      · exact .inr ⟨bl, pv, ps, e, s.below hb, r⟩ }
theorem Inv.more (h : Inv w B bw N f bd bs xv lv d R R2 sv rv sv2 rv2 tw S pend) (hf : f ≤ f') : Inv w B bw N f' bd bs xv lv d R R2 sv rv sv2 rv2 tw S pend :=
  { disk := h.disk, own := h.own, r1 := h.r1, r2 := h.r2, hB := h.hB, bw0 := h.bw0, bd0 := h.bd0, bs0 := h.bs0, lv0 := h.lv0, ok := h.ok, fl := Int.le_trans h.fl hf, n := h.n, sn := h.sn, late := h.late, st := h.st, g1 := h.g1, g2 := h.g2, cont := h.cont, two := h.two, log := h.log }
/-- A call that turns the disk alone. -/
theorem Inv.ofDisk (h : Inv w B bw N f bd bs xv lv d R R2 sv rv sv2 rv2 tw S pend) (hd : DAt w' bd bs lv' d') (st : DStep bd bs lv lv' w w') (ok : d'.Ok) (hf : d'.failed ≤ f') (hn : d'.safe.length = N) (hl : d'.late.length ≤ 200) (hs : Stands S pend d') : Inv w' B bw N f' bd bs xv lv' d' R R2 sv rv sv2 rv2 tw S pend :=
  { disk := hd, own := h.disk.keep st h.own (by decide) (by decide) (by decide), r1 := h.r1.keepD h.disk st, r2 := h.r2.keepD h.disk st, hB := Nat.le_trans h.hB st.size, bw0 := h.bw0, bd0 := h.bd0, bs0 := h.bs0,
    lv0 := fun g hg => by
      rcases st.fresh g hg with e | e
      · exact h.lv0 g e
      · exact Nat.le_trans h.hB e
    ok := ok, fl := hf, n := hn, sn := h.sn, late := hl, st := hs, g1 := h.g1, g2 := h.g2, cont := h.cont, two := h.two,
    log := by
      rcases h.log with e | ⟨bl, pv, ps, e, s, r⟩
      · exact .inl e
      · exact .inr ⟨bl, pv, ps, e, (s.ofDisk hd st).1, r⟩ }
end
theorem InvE.below {w w' : World} {B bw N : Nat} {f : Int} (h : InvE w B bw N f) (hb : Below w.heap.size w w') : InvE w' B bw N f := by
  obtain ⟨bd, bs, xv, lv, d, R, R2, sv, rv, sv2, rv2, tw, S, pend, h⟩ := h
  exact ⟨bd, bs, xv, lv, d, R, R2, sv, rv, sv2, rv2, tw, S, pend, h.below hb⟩
theorem InvE.more {w : World} {B bw N : Nat} {f f' : Int} (h : InvE w B bw N f) (hf : f ≤ f') : InvE w B bw N f' := by
  obtain ⟨bd, bs, xv, lv, d, R, R2, sv, rv, sv2, rv2, tw, S, pend, h⟩ := h
  exact ⟨bd, bs, xv, lv, d, R, R2, sv, rv, sv2, rv2, tw, S, pend, h.more hf⟩
theorem Below.new (w : World) (o : Obj) : Below w.heap.size w (w.alloc o) := (Below.refl _ _).alloc (Nat.le_refl _) o

/-- What a step is to keep. -/
def Kp (w : World) (B bw N : Nat) (f : Int) (w' : World) : Prop := InvE w' B bw N (f + 1) ∧ Below B w w'
theorem Kp.from {w w1 w' : World} {B bw N : Nat} {f : Int} (h : Kp w1 B bw N f w') (hb : Below B w w1) : Kp w B bw N f w' := ⟨h.1, hb.trans h.2⟩
theorem nonNeg_le {n : Int} (h : n ≤ 9223372036854775807) : 0 ≤ nonNeg n ∧ nonNeg n ≤ 9223372036854775807 := by
  unfold nonNeg
  split <;> omega
theorem fail_inv (w : World) (B bw N : Nat) (f : Int) (bd bs : Nat) (xv lv : Value) (d : Dk) (R R2 : Rf) (sv rv sv2 rv2 : Value) (tw : Bool) (S : List ByteArray) (pend : Option (List (Nat × ByteArray))) (h : Inv w B bw N f bd bs xv lv d R R2 sv rv sv2 rv2 tw S pend) (n : Int) (hn : n ≤ 9223372036854775807) :
    Calls Try.prog 20 #[.pointer (some ⟨bd, 0, none⟩), .int .i64 n] w fun e w' => e = .returned (.tuple #[]) ∧ Kp w B bw N f w' := by
  refine (fail_any w bd bs lv d n h.disk).mono ?_
  rintro e w' ⟨rfl, hd, st⟩
  have hz := nonNeg_le hn
  have ok := h.ok
  have hfl := h.fl
  exact ⟨rfl, ⟨bd, bs, xv, lv, _, R, R2, sv, rv, sv2, rv2, tw, S, pend, h.ofDisk hd st ⟨by simp only; omega, by simp only; omega, ok.l0, ok.l1, ok.f0, ok.f1, ok.n, ok.lt⟩ (by simp only; omega) h.n h.late (h.st.wait _)⟩, st.below h.bd0 h.bs0 h.lv0 h.hB⟩
theorem die_inv (w : World) (B bw N : Nat) (f : Int) (bd bs : Nat) (xv lv : Value) (d : Dk) (R R2 : Rf) (sv rv sv2 rv2 : Value) (tw : Bool) (S : List ByteArray) (pend : Option (List (Nat × ByteArray))) (h : Inv w B bw N f bd bs xv lv d R R2 sv rv sv2 rv2 tw S pend) (n : Int) (hn : n ≤ 9223372036854775807) :
    Calls Try.prog 14 #[.pointer (some ⟨bd, 0, none⟩), .int .i64 n] w fun e w' => e = .returned (.tuple #[]) ∧ Kp w B bw N f w' := by
  refine (die_all w bd bs lv d n h.disk).mono ?_
  rintro e w' ⟨rfl, hd, st⟩
  have hz := nonNeg_le hn
  have ok := h.ok
  have hfl := h.fl
  exact ⟨rfl, ⟨bd, bs, xv, lv, _, R, R2, sv, rv, sv2, rv2, tw, S, pend, h.ofDisk hd st ⟨ok.w0, ok.w1, by simp only; omega, by simp only; omega, ok.f0, ok.f1, ok.n, ok.lt⟩ (by simp only; omega) h.n h.late (h.st.life _)⟩, st.below h.bd0 h.bs0 h.lv0 h.hB⟩
theorem crash_inv (w : World) (B bw N : Nat) (f : Int) (bd bs : Nat) (xv lv : Value) (d : Dk) (R R2 : Rf) (sv rv sv2 rv2 : Value) (tw : Bool) (S : List ByteArray) (pend : Option (List (Nat × ByteArray))) (h : Inv w B bw N f bd bs xv lv d R R2 sv rv sv2 rv2 tw S pend) (kv : Value) (ks : List Int) (hk : IntsAt w kv ks) (hl : ∀ b o n c, kv = .slice (some ⟨b, o, none⟩) n c → 0 < n → b < B) :
    Calls Try.prog 16 #[.pointer (some ⟨bd, 0, none⟩), kv] w fun e w' => e = .returned (.tuple #[]) ∧ Kp w B bw N f w' := by
  have hlt := h.late
  have hB := h.hB
  have b1 := h.bd0
  have b2 := h.bs0
  refine (crash_any w bd bs lv kv d ks h.disk h.ok (by omega) hk ?_).mono ?_
  · intro b o n c e hn
    have := hl b o n c e hn
    exact ⟨by omega, by omega, by omega, fun e => by have := h.lv0 b e; omega⟩
  rintro e w' ⟨lv', rfl, hd, st⟩
  have ok := h.ok
  have hfl := h.fl
  have hsl : (d.crash ks).safe.length = d.safe.length := lay_len _ _
  exact ⟨rfl, ⟨bd, bs, xv, lv', _, R, R2, sv, rv, sv2, rv2, tw, S, pend, h.ofDisk hd st ⟨by simp [Dk.crash], by simp [Dk.crash], by simp [Dk.crash], by simp [Dk.crash], ok.f0, ok.f1, by rw [hsl]; exact ok.n, by simp [Dk.crash]⟩ (by show d.failed ≤ f + 1; omega) (by rw [hsl]; exact h.n) (by simp [Dk.crash]) (h.st.crash _)⟩, st.below h.bd0 h.bs0 h.lv0 h.hB⟩
end Go.Proofs.Ytcbindgpbeaebaa
