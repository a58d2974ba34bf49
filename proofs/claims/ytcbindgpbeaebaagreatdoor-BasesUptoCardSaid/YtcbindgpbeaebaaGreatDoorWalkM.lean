import Derived.Test.YtcbindgpbeaebaaGreatDoorPureA
namespace Go.Proofs.YtcbindgpbeaebaaGreatDoor
open Go.RowKit Go.Deep
attribute [local go_sem ↓] Go.wp_at_zero Go.wp_at_succ

/-- What the room has for the numbers of a record. -/
def inRoom (d : Dk) : Nat → List (Nat × ByteArray) → List (Nat × ByteArray)
  | _, [] => []
  | i, p :: r => (p.1, d.read (1 + i)) :: inRoom d (i + 1) r
theorem inRoom_at (d : Dk) : ∀ (ps : List (Nat × ByteArray)) (i k : Nat) (p : Nat × ByteArray), ps[k]? = some p → (inRoom d i ps)[k]? = some (p.1, d.read (1 + (i + k)))
  | [], _, _, _, h => by simp at h
  | q :: r, i, 0, p, h => by simp at h; subst h; simp [inRoom]
  | q :: r, i, k + 1, p, h => by
    have := inRoom_at d r (i + 1) k p (by simpa using h)
    simp only [inRoom, List.getElem?_cons_succ, this]
    congr 4; omega
theorem inRoom_len (d : Dk) : ∀ (ps : List (Nat × ByteArray)) (i : Nat), (inRoom d i ps).length = ps.length
  | [], _ => rfl
  | q :: r, i => by simp [inRoom, inRoom_len d r]
theorem ownsRow_base {w : World} {b b' : Nat} {e : TypeId} {size : Nat} {v : Value} {n : Nat} {xs : List Value} (h : w.ownsRow b e size v n xs) (hb : b' ≤ b) : w.ownsRow b' e size v n xs := by
  obtain ⟨h1, h2⟩ := h
  refine ⟨h1, ?_⟩
  rcases h2 with h2 | ⟨g, cap, cur, hv, hg, hr⟩
  · exact .inl h2
  · exact .inr ⟨g, cap, cur, hv, Nat.le_trans hb hg, hr⟩

theorem noted_dead (w : World) (bl bd bs : Nat) (lv : Value) (d : Dk) (hp : w.cell? ⟨bl, 0, none⟩ = some (.pointer (some ⟨bd, 0, none⟩))) (h : DAt w bd bs lv d) (hs : 90 < d.safe.length) (hd : d.life = 0) :
    Calls Tryz.prog 150 #[.pointer (some ⟨bl, 0, none⟩)] w fun e w' => e = .returned (.tuple #[.slice none 0 0, .bool false]) ∧ w' = w := by
  have HD := hide hd
  clear hd
  go_enter Tryz.func150, Tryz.ntmps150
  go_wp2_with fail
  refine (read_dead _ bd bs lv d 0 h (by omega) (by omega) (unhide HD)).mono ?_
  rintro e w1 ⟨rfl, rfl⟩
  go_wp2_with fail
  go_ret2
  exact ⟨rfl, rfl⟩

set_option maxRecDepth 100000 in
set_option maxHeartbeats 3200000 in
theorem noted_live (w : World) (bl bd bs : Nat) (lv : Value) (d : Dk) (ps : List (Nat × ByteArray)) (hp : w.cell? ⟨bl, 0, none⟩ = some (.pointer (some ⟨bd, 0, none⟩))) (h : DAt w bd bs lv d) (hn : d.safe.length ≤ 4096) (hs : 90 < d.safe.length) (hll : d.late.length ≤ 1000000) (hd : d.life ≠ 0)
    (ht : Tells (d.read 0) ps) (hl : ps.length ≤ 80) (hb4 : ∀ p ∈ ps, 90 + p.1 < d.safe.length) :
    Calls Tryz.prog 150 #[.pointer (some ⟨bl, 0, none⟩)] w fun e w' => ∃ v, e = .returned (.tuple #[v, .bool true]) ∧ w'.ownsRow w.heap.size 244 2 v ps.length (flat (inRoom d 0 ps)) ∧ Below w.heap.size w w' := by
  have HD := hide hd
  clear hd
  have lbl := World.block_lt_of_cell? w _ hp
  obtain ⟨i0, hi0, hz0, hz1, hz2⟩ := info_parts info_put
  go_enter Tryz.func150, Tryz.ntmps150
  go_wp2_with fail
  refine (read_live _ bd bs lv d 0 h hn (by omega) (by omega) (unhide HD) hll).mono ?_
  rintro e w1 ⟨rfl, hw1⟩
  have hb1 : Below w.heap.size w w1 := by
    rcases hw1 with rfl | ⟨o, rfl⟩
    · exact Below.refl _ _
    · exact (Below.refl _ _).alloc (Nat.le_refl _) o
  clear hw1
  rw [Int.toNat_zero]
  have p1 := (hb1.cell (p := ⟨bl, 0, none⟩) lbl).trans hp
  have d1 := h.below hb1
  go_wp2_with fail
  refine (recorded_any _ bl bd bs lv d (d.read 0) ps p1 d1 hn ht hl hb4).mono ?_
  rintro e w2 ⟨nv, rfl, hnv, hb2⟩
  obtain ⟨no, ncap, rfl⟩ : ∃ no ncap, nv = .slice no ps.length ncap := ownsRow_form (ownsRow_base hnv (Nat.zero_le _))
  have hb02 : Below w.heap.size w w2 := hb1.trans (hb2.mono hb1.size)
  have sz2 := hb02.size
  go_wp2_with fail
  go_loopw [6, 25] (fun v i wr => ∃ k : Nat, k ≤ ps.length ∧ i = .int .i64 k ∧ wr.ownsRow w2.heap.size 244 2 v k (flat ((inRoom d 0 ps).take k)) ∧ Below w2.heap.size w2 wr) (fun _ i _ => ps.length - (intOf i).toNat)
  case atStart => exact ⟨0, Nat.zero_le _, rfl, World.ownsRow_nil _ _ _ _, Below.refl _ _⟩
  case round =>
    obtain ⟨k, hk, rfl, hown, hb⟩ := hrel
    have hb0 : Below w.heap.size w wr := hb02.trans (hb.mono sz2)
    by_cases hlt : k < ps.length
    · obtain ⟨p, hpk⟩ : ∃ p, ps[k]? = some p := ⟨ps[k], List.getElem?_eq_getElem hlt⟩
      have hx := inRoom_at d ps 0 k p hpk
      rw [Nat.zero_add] at hx
      obtain ⟨g, capx, hv, _, hg⟩ := hnv.form (by omega)
      have hno : no = some ⟨g, 0, none⟩ := by
        simp only [Value.slice.injEq] at hv
        exact hv.1
      subst hno
      clear hv
      have cn : wr.cell? ⟨g, k, none⟩ = some (.int .i64 (p.1 : Int)) := by
        have hc := hnv.cells (g := g) rfl k (.int .i64 (p.1 : Int)) (by simp [ncells, hpk])
        have hadd : (⟨g, 0, none⟩ : Addr).add k = ⟨g, k, none⟩ := by unfold Addr.add; split <;> simp_all
        rw [hadd] at hc
        exact (hb.cell (p := ⟨g, k, none⟩) hg).trans hc
      have HX := hide hx
      clear hx hpk
      have pr := (hb0.cell (p := ⟨bl, 0, none⟩) lbl).trans hp
      have dr := h.below hb0
      have i0' : (0 : Int) ≤ (k : Int) := Int.natCast_nonneg _
      have i1 : (k : Int) < (ps.length : Int) := by omega
      go_wp2_with fail
      refine (read_live _ bd bs lv d (1 + (k : Int)) dr hn (by omega) (by omega) (unhide HD) hll).mono ?_
      rintro e w3 ⟨rfl, hw3⟩
      rw [show ((1 : Int) + (k : Int)).toNat = 1 + k by omega]
      have hb3 : Below w2.heap.size w2 w3 := by
        rcases hw3 with rfl | ⟨o, rfl⟩
        · exact hb
        · exact hb.alloc hb.size o
      have hown3 : w3.ownsRow w2.heap.size 244 2 u6 k (flat ((inRoom d 0 ps).take k)) := by
        rcases hw3 with rfl | ⟨o, rfl⟩
        · exact hown
        · exact hown.alloc o
      clear hw3
      have sz3 := hb3.size
      go_wp2_with (at_builtin; refine wpList_append_lies _ (by rfl) _ _ _ (by rfl) w2.heap.size 244 i0 _ 2 24 Tryz.underlying181 hi0 hz0 hz1 hz2 rfl (by omega) _ k (flat ((inRoom d 0 ps).take k)) (by rfl) (hown3.alloc _) ⟨w3.heap.size, 0, none⟩ 1 1 [.int .i64 (p.1 : Int), .string (d.read (1 + k))] (by rfl) (by rfl) (World.news_of_block (cs := #[.int .i64 (p.1 : Int), .string (d.read (1 + k))]) (t := 244) (fr := (0, 0)) (heap_alloc_new w3 _)) (by simp [Value.oneCell']) (by omega) (by simp [maxLen]; omega) (by omega) (by simp; omega) (w3.heap.size + 1) (by simp) ?_; intro gg cap2 w4 hown1 hgrow hat hlt2)
      go_roundw
      case rel =>
        refine ⟨k + 1, by omega, by go_num, ?_, ?_⟩
        · rw [show (inRoom d 0 ps).take (k + 1) = (inRoom d 0 ps).take k ++ [(p.1, d.read (1 + k))] by rw [List.take_add_one, unhide HX]; rfl, flat_app]
          exact hown1
        · exact (hb3.alloc sz3 _).grown hgrow (by simp; omega) (fun q hq' => (hown3.lt q hq').1)
      case measure => simp [intOf]; omega
    · have hk' : (inRoom d 0 ps).take k = inRoom d 0 ps := List.take_of_length_le (by rw [inRoom_len]; omega)
      rw [hk'] at hown
      have hke : k = ps.length := by omega
      subst hke
      obtain ⟨ao, cap, rfl⟩ : ∃ ao cap, u6 = .slice ao ps.length cap := ownsRow_form (ownsRow_base hown (Nat.zero_le _))
      go_wp2_with fail
      go_ret2
      exact ⟨_, rfl, ownsRow_base hown sz2, hb0⟩
end Go.Proofs.YtcbindgpbeaebaaGreatDoor

namespace Go.Proofs.YtcbindgpbeaebaaGreatDoor
open Go.RowKit Go.Deep
attribute [local go_sem ↓] Go.wp_at_zero Go.wp_at_succ

/-- (*Log).redo, where the record tells the numbers of ps. -/
def Dk.redo (d : Dk) (ps : List (Nat × ByteArray)) : Bool × Dk :=
  if d.flush.1 then (if d.flush.2.life = 0 then (false, d.flush.2) else if ps.length = 0 then (true, d.flush.2) else d.flush.2.through (home (inRoom d.flush.2 0 ps)) [])
  else (false, d.flush.2)
theorem inRoom_mem (d : Dk) : ∀ (ps : List (Nat × ByteArray)) (i : Nat) (x : Nat × ByteArray), x ∈ inRoom d i ps → (∃ p ∈ ps, x.1 = p.1) ∧ ∃ k, x.2 = d.read k
  | [], _, _, h => by simp [inRoom] at h
  | q :: r, i, x, h => by
    simp only [inRoom, List.mem_cons] at h
    rcases h with rfl | h
    · exact ⟨⟨q, by simp, rfl⟩, _, rfl⟩
    · obtain ⟨⟨p, hp, e⟩, k, hk⟩ := inRoom_mem d r (i + 1) x h
      exact ⟨⟨p, by simp [hp], e⟩, k, hk⟩

set_option maxRecDepth 100000 in
set_option maxHeartbeats 3200000 in
theorem redo_any (w : World) (bl bd bs : Nat) (lv : Value) (d : Dk) (ps : List (Nat × ByteArray)) (hp : w.cell? ⟨bl, 0, none⟩ = some (.pointer (some ⟨bd, 0, none⟩))) (off : Off w bd bs lv bl) (h : DAt w bd bs lv d) (ok : d.Ok) (hs : 90 < d.safe.length) (hll : d.late.length ≤ 1000000)
    (ht : d.flush.1 = true → Tells (d.flush.2.read 0) ps) (hl : ps.length ≤ 80) (hb4 : ∀ p ∈ ps, 90 + p.1 < d.safe.length) (hz : ∀ p ∈ inRoom d.flush.2 0 ps, p.2.size ≤ 256) :
    Calls Tryz.prog 113 #[.pointer (some ⟨bl, 0, none⟩)] w fun e w' => ∃ lv', e = .returned (.bool (d.redo ps).1) ∧ DAt w' bd bs lv' (d.redo ps).2 ∧ DStep bd bs lv lv' w w' := by
  cases hf : d.flush.1 with
  | false =>
    have HR : Hid (d.redo ps = (false, d.flush.2)) := by show d.redo ps = _; simp [Dk.redo, hf]
    have HF := hide hf
    clear hf ht
    go_enter Tryz.func113, Tryz.ntmps113
    go_wp2_with fail
    refine (flush_any _ bd bs lv d h ok hll).mono ?_
    rintro e w1 ⟨lv1, rfl, h1, st1⟩
    rw [unhide HF]
    go_wp2_with fail
    go_ret
    exact ⟨lv1, by rw [unhide HR]; rfl, by rw [unhide HR]; exact h1, st1⟩
  | true =>
    obtain ⟨ok1, hs1, hl1⟩ := Dk.flush_ok hf ok
    have hlen : d.flush.2.safe.length = d.safe.length := by rw [hs1, lay_len]
    have ht' := ht hf
    have hn1 := ok1.n
    have hll1 : d.flush.2.late.length ≤ 800000 := by rw [hl1]; simp
    have hs90 : 90 < d.flush.2.safe.length := by omega
    have hb41 : ∀ p ∈ ps, 90 + p.1 < d.flush.2.safe.length := fun p hp => by rw [hlen]; exact hb4 p hp
    by_cases hd : d.flush.2.life = 0
    · have HR : Hid (d.redo ps = (false, d.flush.2)) := by show d.redo ps = _; simp [Dk.redo, hf, hd]
      have HF := hide hf
      have HD := hide hd
      clear hf hd ht hs1 hl1 hlen ht'
      go_enter Tryz.func113, Tryz.ntmps113
      go_wp2_with fail
      refine (flush_any _ bd bs lv d h ok hll).mono ?_
      rintro e w1 ⟨lv1, rfl, h1, st1⟩
      rw [unhide HF]
      have p1 := (off.cell st1 0).trans hp
      go_wp2_with fail
      refine (noted_dead _ bl bd bs lv1 d.flush.2 p1 h1 hs90 (unhide HD)).mono ?_
      rintro e w2 ⟨rfl, rfl⟩
      go_wp2_with fail
      go_ret
      exact ⟨lv1, by rw [unhide HR]; rfl, by rw [unhide HR]; exact h1, st1⟩
    · by_cases hps : ps.length = 0
      · have HR : Hid (d.redo ps = (true, d.flush.2)) := by show d.redo ps = _; simp [Dk.redo, hf, hd, List.eq_nil_of_length_eq_zero hps]
        have HF := hide hf
        have HD := hide hd
        have hpb : ((ps.length : Int) == 0) = true := by rw [beq_iff_eq]; omega
        clear hf hd ht hs1 hl1 hlen hps
        go_enter Tryz.func113, Tryz.ntmps113
        go_wp2_with fail
        refine (flush_any _ bd bs lv d h ok hll).mono ?_
        rintro e w1 ⟨lv1, rfl, h1, st1⟩
        rw [unhide HF]
        have p1 := (off.cell st1 0).trans hp
        go_wp2_with fail
        refine (noted_live _ bl bd bs lv1 d.flush.2 ps p1 h1 hn1 hs90 (by omega) (unhide HD) ht' hl hb41).mono ?_
        rintro e w2 ⟨v, rfl, hv, hb⟩
        obtain ⟨no, ncap, rfl⟩ : ∃ no ncap, v = .slice no ps.length ncap := ownsRow_form (ownsRow_base hv (Nat.zero_le _))
        go_wp2_with fail
        go_ret
        exact ⟨lv1, by rw [unhide HR]; rfl, by rw [unhide HR]; exact h1.below hb, st1.trans (DStep.ofBelow hb)⟩
      · have HR : Hid (d.redo ps = d.flush.2.through (home (inRoom d.flush.2 0 ps)) []) := by
          show d.redo ps = _
          simp only [Dk.redo, hf, if_true, hd, if_false, hps]
        have HF := hide hf
        have HD := hide hd
        have hpb : ((ps.length : Int) == 0) = false := by rw [beq_eq_false_iff_ne]; omega
        have hlen' := inRoom_len d.flush.2 ps 0
        have hN4 : ∀ p ∈ inRoom d.flush.2 0 ps, 90 + p.1 < d.flush.2.safe.length := fun x hx => by
          obtain ⟨⟨p, hp, e⟩, _⟩ := inRoom_mem _ ps 0 x hx
          rw [e]; exact hb41 p hp
        have hNz : ∀ p ∈ inRoom d.flush.2 0 ps, p.2.size ≤ 256 := hz
        have hNl : (inRoom d.flush.2 0 ps).length ≤ 80 := by omega
        have HL := hide hlen'
        clear hf hd ht hs1 hl1 hlen hps hlen'
        go_enter Tryz.func113, Tryz.ntmps113
        go_wp2_with fail
        refine (flush_any _ bd bs lv d h ok hll).mono ?_
        rintro e w1 ⟨lv1, rfl, h1, st1⟩
        rw [unhide HF]
        have p1 := (off.cell st1 0).trans hp
        go_wp2_with fail
        refine (noted_live _ bl bd bs lv1 d.flush.2 ps p1 h1 hn1 hs90 (by omega) (unhide HD) ht' hl hb41).mono ?_
        rintro e w2 ⟨v, rfl, hv, hb⟩
        obtain ⟨no, ncap, rfl⟩ : ∃ no ncap, v = .slice no ps.length ncap := ownsRow_form (ownsRow_base hv (Nat.zero_le _))
        have st2 := st1.trans (DStep.ofBelow (bd := bd) (bs := bs) (lv := lv1) hb)
        have off2 := (off.step st2).1
        have p2 := (off.cell st2 0).trans hp
        have h2 := h1.below hb
        have q2 : QAt w2 bd bs lv1 (.slice no ps.length ncap) (inRoom d.flush.2 0 ps) := by
          refine ⟨by rw [unhide HL]; exact ownsRow_base hv (Nat.zero_le _), fun g hg => ?_⟩
          obtain ⟨ga, gb⟩ := hv.lt g hg
          refine ⟨gb, ?_, ?_, fun e => ?_⟩
          · have := h1.ltd; omega
          · have := h1.lts; omega
          · have := h1.ltl g e; omega
        go_wp2_with fail
        refine (settle_any _ bl bd bs lv1 (.slice no ps.length ncap) d.flush.2 (inRoom d.flush.2 0 ps) p2 off2 h2 q2 ok1 hs90 hll1 hNl hN4 hNz).mono ?_
        rintro e w3 ⟨lv3, rfl, h3, st3⟩
        go_wp2_with fail
        go_ret
        exact ⟨lv3, by rw [unhide HR]; rfl, by rw [unhide HR]; exact h3, st2.trans st3⟩

set_option maxRecDepth 100000 in
set_option maxHeartbeats 1600000 in
theorem open_any (w : World) (B bd bs : Nat) (lv : Value) (d : Dk) (ps : List (Nat × ByteArray)) (h : DAt w bd bs lv d) (hB : B ≤ w.heap.size) (hBd : B ≤ bd) (hBs : B ≤ bs) (hBv : ∀ g, lv.ownBlock = some g → B ≤ g) (ok : d.Ok) (hs : 90 < d.safe.length) (hll : d.late.length ≤ 1000000)
    (ht : d.flush.1 = true → Tells (d.flush.2.read 0) ps) (hl : ps.length ≤ 80) (hb4 : ∀ p ∈ ps, 90 + p.1 < d.safe.length) (hz : ∀ p ∈ inRoom d.flush.2 0 ps, p.2.size ≤ 256) :
    Calls Tryz.prog 73 #[.pointer (some ⟨bd, 0, none⟩)] w fun e w' => ∃ lv', DStep bd bs lv lv' w w' ∧ Below B w w' ∧
      ((d.redo ps).1 = true → e = .returned (.tuple #[.pointer (some ⟨w.heap.size, 0, none⟩), .int .i64 0]) ∧ Sys w' B w.heap.size bd bs (.slice none 0 0) lv' [] false (d.redo ps).2) ∧
      ((d.redo ps).1 = false → e = .returned (.tuple #[.pointer none, .int .i64 9]) ∧ DAt w' bd bs lv' (d.redo ps).2 ∧ DStep bd bs lv lv' w w') := by
  have hn := ok.n
  have hld := h.ltd
  have hls := h.lts
  have hlv := h.ltl
  have h1 := h.alloc (.cells (lcells bd (.slice none 0 0) false) 183 (0, 0))
  have st1 := (DStep.refl bd bs lv w).alloc (.cells (lcells bd (.slice none 0 0) false) 183 (0, 0))
  have l1 : LAt (w.alloc (.cells (lcells bd (.slice none 0 0) false) 183 (0, 0))) w.heap.size bd (.slice none 0 0) [] false := ⟨heap_alloc_new w _, World.ownsRow_nil _ _ _ _, by simp [Value.ownBlock]⟩
  have sys1 : Sys (w.alloc (.cells (lcells bd (.slice none 0 0) false) 183 (0, 0))) B w.heap.size bd bs (.slice none 0 0) lv [] false d :=
    ⟨l1, h1, ⟨by omega, by omega, fun e => by have := hlv _ e; omega, by simp [Value.ownBlock], by simp [Value.ownBlock], by simp [Value.ownBlock], hB, hBd, hBs, by simp [Value.ownBlock], hBv⟩, by simp; omega⟩
  have b1 : Below B w (w.alloc (.cells (lcells bd (.slice none 0 0) false) 183 (0, 0))) := (Below.refl _ _).alloc hB _
  have HST := hide st1
  have HS1 := hide sys1
  have HB1 := hide b1
  clear st1 sys1 b1 hlv
  go_enter Tryz.func73, Tryz.ntmps73
  go_wp2_with (go_at_call 71; refine (dblocks_any _ _ _ _ _ h).mono ?_; rintro e w' ⟨rfl, hw⟩; have hw := hw.symm; subst hw)
  refine (redo_any (w.alloc (.cells (lcells bd (.slice none 0 0) false) 183 (0, 0))) w.heap.size bd bs lv d ps l1.c0 (unhide HS1).offLog h1 ok hs hll ht hl hb4 hz).mono ?_
  rintro e w2 ⟨lv2, rfl, h2, st2⟩
  obtain ⟨s2, b2⟩ := (unhide HS1).ofDisk h2 st2
  have HB2 := hide b2
  have HS2 := hide s2
  clear b2 s2
  cases hr : (d.redo ps).1 with
  | false =>
    have HR := hide hr
    clear hr
    go_wp2_with fail
    go_ret2
    exact ⟨lv2, (unhide HST).trans st2, (unhide HB1).trans (unhide HB2), fun e => absurd (e.symm.trans (unhide HR)) (by decide), fun _ => ⟨rfl, h2, (unhide HST).trans st2⟩⟩
  | true =>
    have HR := hide hr
    clear hr
    go_wp2_with fail
    go_ret2
    exact ⟨lv2, (unhide HST).trans st2, (unhide HB1).trans (unhide HB2), fun _ => ⟨rfl, unhide HS2⟩, fun e => absurd (e.symm.trans (unhide HR)) (by decide)⟩
end Go.Proofs.YtcbindgpbeaebaaGreatDoor

namespace Go.Proofs.YtcbindgpbeaebaaGreatDoor
open Go.RowKit Go.Deep
attribute [local go_sem ↓] Go.wp_at_zero Go.wp_at_succ

/-- (*Log).Get -/
def getL (d : Dk) (ps : List (Nat × ByteArray)) (br : Bool) (a : Int) : ByteArray × Int :=
  if hasB d.safe.length a = false then (⟨#[]⟩, 1)
  else if d.life = 0 ∨ br = true then (⟨#[]⟩, 9)
  else if 0 ≤ idx ps a then (((ps[(idx ps a).toNat]?).getD (0, ⟨#[]⟩)).2, 0)
  else (d.read (90 + a.toNat), 0)

set_option maxRecDepth 100000 in
set_option maxHeartbeats 3200000 in
theorem get_any (w : World) (bl bd bs : Nat) (pv lv : Value) (ps : List (Nat × ByteArray)) (br : Bool) (d : Dk) (a : Int) (hl : LAt w bl bd pv ps br) (h : DAt w bd bs lv d) (hn : d.safe.length ≤ 4096) (hll : d.late.length ≤ 1000000) (hp : ps.length ≤ 80) :
    Calls Tryz.prog 193 #[.pointer (some ⟨bl, 0, none⟩), .int .i64 a] w fun e w' => e = .returned (.tuple #[.string (getL d ps br a).1, .int .i64 (getL d ps br a).2]) ∧ Below w.heap.size w w' := by
  have c0 := hl.c0
  have c2 := hl.c2
  cases hh : hasB d.safe.length a with
  | false =>
    have HR : Hid (getL d ps br a = (⟨#[]⟩, 1)) := by show getL d ps br a = _; simp [getL, hh]
    have HH := hide hh
    clear hh
    go_enter Tryz.func193, Tryz.ntmps193
    go_wp2_with fail
    refine (has_any _ _ _ _ _ _ _ c0 h hn).mono ?_
    rintro e w1 ⟨rfl, rfl⟩
    rw [unhide HH]
    go_wp2_with fail
    go_ret2
    exact ⟨by rw [unhide HR]; rfl, Below.refl _ _⟩
  | true =>
    have ha : 0 ≤ a ∧ a < (d.safe.length : Int) - 90 := by simp [hasB] at hh; omega
    obtain ⟨ha0, ha1⟩ := ha
    obtain ⟨k, rfl⟩ := Int.eq_ofNat_of_zero_le ha0
    have HH := hide hh
    by_cases hd : d.life = 0
    · have HR : Hid (getL d ps br k = (⟨#[]⟩, 9)) := by show getL d ps br k = _; simp [getL, hh, hd]
      have HD := hide hd
      clear hh hd
      go_enter Tryz.func193, Tryz.ntmps193
      go_wp2_with fail
      refine (has_any _ _ _ _ _ _ _ c0 h hn).mono ?_
      rintro e w1 ⟨rfl, rfl⟩
      rw [unhide HH]
      go_wp2_with fail
      refine (read_dead _ bd bs lv d (90 + (k : Int)) h (by omega) (by omega) (unhide HD)).mono ?_
      rintro e w1 ⟨rfl, rfl⟩
      go_wp2_with fail
      go_ret2
      exact ⟨by rw [unhide HR]; rfl, Below.refl _ _⟩
    · cases br with
      | true =>
        have HR : Hid (getL d ps true k = (⟨#[]⟩, 9)) := by show getL d ps true k = _; simp [getL, hh]
        have HD := hide hd
        clear hh hd
        go_enter Tryz.func193, Tryz.ntmps193
        go_wp2_with fail
        refine (has_any _ _ _ _ _ _ _ c0 h hn).mono ?_
        rintro e w1 ⟨rfl, hw⟩
        have hw := hw.symm
        subst hw
        rw [unhide HH]
        go_wp2_with fail
        refine (read_live _ bd bs lv d (90 + (k : Int)) h hn (by omega) (by omega) (unhide HD) hll).mono ?_
        rintro e w1 ⟨rfl, hw1⟩
        have hb1 : Below w.heap.size w w1 := by
          rcases hw1 with rfl | ⟨o, rfl⟩
          · exact Below.refl _ _
          · exact (Below.refl _ _).alloc (Nat.le_refl _) o
        clear hw1
        have c21 := (hl.below hb1).c2
        go_wp2_with fail
        go_ret2
        exact ⟨by rw [unhide HR]; rfl, hb1⟩
      | false =>
        have hg : getL d ps false k = if 0 ≤ idx ps k then (((ps[(idx ps k).toNat]?).getD (0, ⟨#[]⟩)).2, 0) else (d.read (90 + k), 0) := by
          simp [getL, hh, hd]
        have HD := hide hd
        have HG := hide hg
        clear hh hd hg
        go_enter Tryz.func193, Tryz.ntmps193
        go_wp2_with fail
        refine (has_any _ _ _ _ _ _ _ c0 h hn).mono ?_
        rintro e w1 ⟨rfl, hw⟩
        have hw := hw.symm
        subst hw
        rw [unhide HH]
        go_wp2_with fail
        refine (read_live _ bd bs lv d (90 + (k : Int)) h hn (by omega) (by omega) (unhide HD) hll).mono ?_
        rintro e w1 ⟨rfl, hw1⟩
        rw [show ((90 : Int) + (k : Int)).toNat = 90 + k by omega]
        have hb1 : Below w.heap.size w w1 := by
          rcases hw1 with rfl | ⟨o, rfl⟩
          · exact Below.refl _ _
          · exact (Below.refl _ _).alloc (Nat.le_refl _) o
        clear hw1
        have l1 := hl.below hb1
        have c21 := l1.c2
        go_wp2_with fail
        refine (find_any _ bl pv ps _ l1.c1 l1.puts (by omega)).mono ?_
        rintro e w2 ⟨rfl, hb2⟩
        have hb02 : Below w.heap.size w w2 := hb1.trans (hb2.mono hb1.size)
        have l2 := hl.below hb02
        by_cases hi : 0 ≤ idx ps (k : Int)
        · obtain ⟨p, hpi, hpe⟩ := idx_at ps k hi
          have hg := unhide HG
          rw [if_pos hi, hpi] at hg
          have HR := hide hg
          obtain ⟨g, cap, hpv, _, cB, lg⟩ := row_at l2.puts _ p hpi
          subst hpv
          obtain ⟨i, hii⟩ := Int.eq_ofNat_of_zero_le hi
          have hlt : i < ps.length := by
            rw [hii, Int.toNat_natCast] at hpi
            exact (List.getElem?_eq_some_iff.1 hpi).1
          rw [hii, Int.toNat_natCast] at cB
          rw [hii]
          have c12 := l2.c1
          clear hg hii hi hpi hpe HG
          have i0 : (0 : Int) ≤ (i : Int) := Int.natCast_nonneg _
          have i1 : (i : Int) < (ps.length : Int) := by omega
          go_wp2_with fail
          go_ret2
          exact ⟨by rw [unhide HR]; rfl, hb02⟩
        · have hg := unhide HG
          rw [if_neg hi] at hg
          have HR := hide hg
          have hif : idx ps (k : Int) < 0 := by omega
          clear hg hi HG
          go_wp2_with fail
          go_ret2
          exact ⟨by rw [unhide HR]; rfl, hb02⟩

/-- (*Log).Drop, deferred. -/
theorem drop_deferred (u : FrameMode) (w : World) (bl bd : Nat) (pv : Value) (ps : List (Nat × ByteArray)) (br : Bool) (hl : LAt w bl bd pv ps br) :
    CallsD Tryz.prog 115 #[.pointer (some ⟨bl, 0, none⟩)] u w fun e u' w' => u' = u ∧ (e = .returned (.tuple #[]) ∧ LAt w' bl bd (.slice none 0 0) [] br ∧ DStep bl bl pv (.slice none 0 0) w w') := by
  have c1 := hl.c1
  have z1 := hl.fz 1
  go_enter_d Tryz.func115, Tryz.ntmps115
  go_wp2
  go_end0
  exact ⟨rfl, hl.setPuts _ [] (World.ownsRow_nil _ _ _ _) (by simp [Value.ownBlock]), rfl, rfl, rfl, by simp [World.setCell], fun k _ a _ _ => Below.heap_setCell _ _ _ _ a, fun g hg => by simp [Value.ownBlock] at hg⟩
end Go.Proofs.YtcbindgpbeaebaaGreatDoor

namespace Go.Proofs.YtcbindgpbeaebaaGreatDoor
open Go.RowKit Go.Deep
attribute [local go_sem ↓] Go.wp_at_zero Go.wp_at_succ

/-- What stands behind all that has gone well. -/
theorem Dk.through_ok {d : Dk} {T ps : List (Nat × ByteArray)} (h : (d.through T ps).1 = true) (ok : d.Ok) (hs : 0 < d.safe.length) (hT : ∀ x ∈ T, x.1 < d.safe.length) :
    (d.through T ps).2.Ok ∧ (d.through T ps).2.late = [] ∧ (d.through T ps).2.safe = lay (lay d.safe (d.late ++ T.map fun x => (x.1, pad x.2))) [(0, pad (recB ps))] := by
  cases hw : (d.writes T).1
  · simp [Dk.through, hw] at h
  · obtain ⟨ok1, hs1, hl1⟩ := Dk.writes_ok T d hw ok hT
    cases hf : (d.writes T).2.flush.1
    · simp [Dk.through, hw, hf] at h
    · obtain ⟨ok2, hs2, hl2⟩ := Dk.flush_ok hf ok1
      have e : d.through T ps = (d.writes T).2.flush.2.setRec ps := by simp [Dk.through, hw, hf]
      rw [e] at h ⊢
      cases hr : ((d.writes T).2.flush.2.write 0 (recB ps)).1
      · simp [Dk.setRec, hr] at h
      · have e2 : (d.writes T).2.flush.2.setRec ps = ((d.writes T).2.flush.2.write 0 (recB ps)).2.flush := by simp [Dk.setRec, hr]
        rw [e2] at h ⊢
        obtain ⟨ok3, hs3, hl3⟩ := Dk.write_ok hr ok2 (by rw [hs2, lay_len, hs1]; exact hs)
        obtain ⟨ok4, hs4, hl4⟩ := Dk.flush_ok h ok3
        refine ⟨ok4, hl4, ?_⟩
        rw [hs4, hs3, hl3, hs2, hl2, hs1, hl1]
        rfl

/-- (*Log).Commit: the answer, the disk, whether the log is broken. -/
def commitL (d : Dk) (ps : List (Nat × ByteArray)) (br : Bool) : Int × Dk × Bool :=
  if br then (9, d, true)
  else if ps.length = 0 then (0, d, false)
  else if (d.through (room 0 ps) ps).1 then
    (if ((d.through (room 0 ps) ps).2.through (home ps) []).1 then (0, ((d.through (room 0 ps) ps).2.through (home ps) []).2, false) else (9, ((d.through (room 0 ps) ps).2.through (home ps) []).2, true))
  else (9, (d.through (room 0 ps) ps).2, true)

theorem Sys.setBroken {w : World} {B bl bd bs : Nat} {pv lv : Value} {ps : List (Nat × ByteArray)} {br : Bool} {d : Dk} (s : Sys w B bl bd bs pv lv ps br d) (b : Bool) :
    Sys (w.setCell ⟨bl, 2, none⟩ (.bool b)) B bl bd bs pv lv ps b d ∧ Below B w (w.setCell ⟨bl, 2, none⟩ (.bool b)) :=
  s.ofLog (s.log.setBroken b) ((DStep.refl _ _ _ _).setOwn _ _)

set_option maxRecDepth 100000 in
set_option maxHeartbeats 3200000 in
theorem commit_any (w : World) (B bl bd bs : Nat) (pv lv : Value) (ps : List (Nat × ByteArray)) (br : Bool) (d : Dk) (s : Sys w B bl bd bs pv lv ps br d) (ok : d.Ok) (hs : 90 < d.safe.length) (hll : d.late.length ≤ 800000) (hl : ps.length ≤ 80) (hb4 : ∀ p ∈ ps, 90 + p.1 < d.safe.length) (hz : ∀ p ∈ ps, p.2.size ≤ 256) :
    Calls Tryz.prog 117 #[.pointer (some ⟨bl, 0, none⟩)] w fun e w' => ∃ lv', e = .returned (.int .i64 (commitL d ps br).1) ∧ Sys w' B bl bd bs (.slice none 0 0) lv' [] (commitL d ps br).2.2 (commitL d ps br).2.1 ∧ Below B w w' ∧ SStep bl bd bs pv lv lv' w w' := by
  obtain ⟨ao, cap, hpv⟩ := ownsRow_form s.log.puts
  subst hpv
  have c1 := s.log.c1
  have c2 := s.log.c2
  have z2 := s.log.fz 2
  have hn := ok.n
  cases br with
  | true =>
    have HR : Hid (commitL d ps true = (9, d, true)) := by show commitL d ps true = _; simp [commitL]
    go_enter_defers Tryz.func117, Tryz.ntmps117
    go_wp2_with fail
    refine leaves_cons (f := 115) (args := #[.pointer (some ⟨bl, 0, none⟩)]) (by simp) (by simp [go_sem]) ?_
    refine (drop_deferred .returning _ bl bd _ ps true s.log).mono ?_
    rintro e u' w' ⟨rfl, rfl, hl', st⟩
    obtain ⟨s', b'⟩ := s.ofLog hl' st
    exact ⟨_, results_tmp rfl _ _ _, lv, by rw [unhide HR]; rfl, by rw [unhide HR]; exact s', b', SStep.ofLog st⟩
  | false =>
    by_cases hps : ps.length = 0
    · have HR : Hid (commitL d ps false = (0, d, false)) := by show commitL d ps false = _; simp [commitL, List.eq_nil_of_length_eq_zero hps]
      have hpb : ((ps.length : Int) == 0) = true := by rw [beq_iff_eq]; omega
      clear hps
      go_enter_defers Tryz.func117, Tryz.ntmps117
      go_wp2_with fail
      refine leaves_cons (f := 115) (args := #[.pointer (some ⟨bl, 0, none⟩)]) (by simp) (by simp [go_sem]) ?_
      refine (drop_deferred .returning _ bl bd _ ps false s.log).mono ?_
      rintro e u' w' ⟨rfl, rfl, hl', st⟩
      obtain ⟨s', b'⟩ := s.ofLog hl' st
      exact ⟨_, results_tmp rfl _ _ _, lv, by rw [unhide HR]; rfl, by rw [unhide HR]; exact s', b', SStep.ofLog st⟩
    · have hpb : ((ps.length : Int) == 0) = false := by rw [beq_eq_false_iff_ne]; omega
      obtain ⟨s1, b1⟩ := s.setBroken true
      have q1 := (DStep.refl bl bl (.slice ao ps.length cap) w).setOwn 2 (.bool true)
      have hb44 : ∀ p ∈ ps, p.1 < 4096 := fun p hp => by have := hb4 p hp; omega
      have c11 := s1.log.c1
      have HPS := hide hps
      clear hps
      cases hn1 : (d.through (room 0 ps) ps).1 with
      | false =>
        have HR : Hid (commitL d ps false = (9, (d.through (room 0 ps) ps).2, true)) := by
          show commitL d ps false = _
          simp only [commitL, hn1]
          simp [unhide HPS]
        have HN := hide hn1
        clear hn1
        go_enter_defers Tryz.func117, Tryz.ntmps117
        go_wp2_with fail
        refine (note_any _ bl bd bs lv (.slice ao ps.length cap) d ps s1.log.c0 s1.offLog s1.disk s1.queue ok hs hll hl hb44 hz).mono ?_
        rintro e w2 ⟨lv2, rfl, h2, st2⟩
        rw [unhide HN]
        obtain ⟨s2, b2⟩ := s1.ofDisk h2 st2
        go_wp2_with fail
        refine leaves_cons (f := 115) (args := #[.pointer (some ⟨bl, 0, none⟩)]) (by simp) (by simp [go_sem]) ?_
        refine (drop_deferred .returning _ bl bd _ ps true s2.log).mono ?_
        rintro e u' w' ⟨rfl, rfl, hl', st⟩
        obtain ⟨s', b'⟩ := s2.ofLog hl' st
        exact ⟨_, results_tmp rfl _ _ _, lv2, by rw [unhide HR]; rfl, by rw [unhide HR]; exact s', (b1.trans b2).trans b', ((SStep.ofLog q1).trans (SStep.ofDisk st2)).trans (SStep.ofLog st)⟩
      | true =>
        obtain ⟨ok2, hl2, hs2⟩ := Dk.through_ok hn1 ok (by omega) (fun x hx => by have := room_mem ps 0 x hx; omega)
        have hlen2 : (d.through (room 0 ps) ps).2.safe.length = d.safe.length := by rw [hs2, lay_len, lay_len]
        have hs90 : 90 < (d.through (room 0 ps) ps).2.safe.length := by omega
        have hll2 : (d.through (room 0 ps) ps).2.late.length ≤ 800000 := by rw [hl2]; simp
        have hb42 : ∀ p ∈ ps, 90 + p.1 < (d.through (room 0 ps) ps).2.safe.length := fun p hp => by rw [hlen2]; exact hb4 p hp
        clear hl2 hs2 hlen2
        cases hn2 : ((d.through (room 0 ps) ps).2.through (home ps) []).1 with
        | false =>
          have HR : Hid (commitL d ps false = (9, ((d.through (room 0 ps) ps).2.through (home ps) []).2, true)) := by
            show commitL d ps false = _
            simp only [commitL, hn1, hn2, if_true]
            simp [unhide HPS]
          have HN := hide hn1
          have HM := hide hn2
          clear hn1 hn2
          go_enter_defers Tryz.func117, Tryz.ntmps117
          go_wp2_with fail
          refine (note_any _ bl bd bs lv (.slice ao ps.length cap) d ps s1.log.c0 s1.offLog s1.disk s1.queue ok hs hll hl hb44 hz).mono ?_
          rintro e w2 ⟨lv2, rfl, h2, st2⟩
          rw [unhide HN]
          obtain ⟨s2, b2⟩ := s1.ofDisk h2 st2
          have c12 := s2.log.c1
          go_wp2_with fail
          refine (settle_any _ bl bd bs lv2 (.slice ao ps.length cap) _ ps s2.log.c0 s2.offLog s2.disk s2.queue ok2 hs90 hll2 hl hb42 hz).mono ?_
          rintro e w3 ⟨lv3, rfl, h3, st3⟩
          rw [unhide HM]
          obtain ⟨s3, b3⟩ := s2.ofDisk h3 st3
          go_wp2_with fail
          refine leaves_cons (f := 115) (args := #[.pointer (some ⟨bl, 0, none⟩)]) (by simp) (by simp [go_sem]) ?_
          refine (drop_deferred .returning _ bl bd _ ps true s3.log).mono ?_
          rintro e u' w' ⟨rfl, rfl, hl', st⟩
          obtain ⟨s', b'⟩ := s3.ofLog hl' st
          exact ⟨_, results_tmp rfl _ _ _, lv3, by rw [unhide HR]; rfl, by rw [unhide HR]; exact s', ((b1.trans b2).trans b3).trans b', (((SStep.ofLog q1).trans (SStep.ofDisk st2)).trans (SStep.ofDisk st3)).trans (SStep.ofLog st)⟩
        | true =>
          have HR : Hid (commitL d ps false = (0, ((d.through (room 0 ps) ps).2.through (home ps) []).2, false)) := by
            show commitL d ps false = _
            simp only [commitL, hn1, hn2, if_true]
            simp [unhide HPS]
          have HN := hide hn1
          have HM := hide hn2
          clear hn1 hn2
          go_enter_defers Tryz.func117, Tryz.ntmps117
          go_wp2_with fail
          refine (note_any _ bl bd bs lv (.slice ao ps.length cap) d ps s1.log.c0 s1.offLog s1.disk s1.queue ok hs hll hl hb44 hz).mono ?_
          rintro e w2 ⟨lv2, rfl, h2, st2⟩
          rw [unhide HN]
          obtain ⟨s2, b2⟩ := s1.ofDisk h2 st2
          have c12 := s2.log.c1
          go_wp2_with fail
          refine (settle_any _ bl bd bs lv2 (.slice ao ps.length cap) _ ps s2.log.c0 s2.offLog s2.disk s2.queue ok2 hs90 hll2 hl hb42 hz).mono ?_
          rintro e w3 ⟨lv3, rfl, h3, st3⟩
          rw [unhide HM]
          obtain ⟨s3, b3⟩ := s2.ofDisk h3 st3
          have c23 := s3.log.c2
          have z23 := s3.log.fz 2
          obtain ⟨s4, b4⟩ := s3.setBroken false
          have HQ4 := hide ((DStep.refl bl bl (.slice ao ps.length cap) w3).setOwn 2 (.bool false))
          have HS4 := hide s4
          have HB4 := hide b4
          clear s4 b4
          go_wp2_with fail
          refine leaves_cons (f := 115) (args := #[.pointer (some ⟨bl, 0, none⟩)]) (by simp) (by simp [go_sem]) ?_
          refine (drop_deferred .returning _ bl bd _ ps false (unhide HS4).log).mono ?_
          rintro e u' w' ⟨rfl, rfl, hl', st⟩
          obtain ⟨s', b'⟩ := (unhide HS4).ofLog hl' st
          exact ⟨_, results_tmp rfl _ _ _, lv3, by rw [unhide HR]; rfl, by rw [unhide HR]; exact s', (((b1.trans b2).trans b3).trans (unhide HB4)).trans b', ((((SStep.ofLog q1).trans (SStep.ofDisk st2)).trans (SStep.ofDisk st3)).trans (SStep.ofLog (unhide HQ4))).trans (SStep.ofLog st)⟩
end Go.Proofs.YtcbindgpbeaebaaGreatDoor
