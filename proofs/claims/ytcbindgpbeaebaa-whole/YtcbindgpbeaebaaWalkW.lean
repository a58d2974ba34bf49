import Derived.Test.YtcbindgpbeaebaaPureF
import Derived.Deep.DeepCutAuto
namespace Go.Proofs.Ytcbindgpbeaebaa
open Go.RowKit Go.Deep
attribute [local go_sem ↓] Go.wp_at_zero Go.wp_at_succ

theorem pickN_range (c n : Int) (hn : 0 < n) : 0 ≤ pickN c n ∧ pickN c n < n := by
  unfold pickN
  exact ⟨Int.emod_nonneg _ (by omega), Int.emod_lt_of_pos _ hn⟩
theorem IntsAt.below {w w' : World} {v : Value} {ks : List Int} (h : IntsAt w v ks) (hb : Below w.heap.size w w') : IntsAt w' v ks := by
  obtain ⟨⟨ao, cap, hv, hc⟩, hk⟩ := h
  refine ⟨⟨ao, cap, hv, fun i c hi => ?_⟩, hk⟩
  obtain ⟨b, o, e, hcell⟩ := hc i c hi
  exact ⟨b, o, e, (hb.cell (p := ⟨b, o + i, none⟩) (World.block_lt_of_cell? w _ hcell)).trans hcell⟩
theorem IntsAt.lt {w : World} {v : Value} {ks : List Int} (h : IntsAt w v ks) : ∀ b o n c, v = .slice (some ⟨b, o, none⟩) n c → 0 < n → b < w.heap.size := by
  obtain ⟨⟨ao, cap, hv, hc⟩, _⟩ := h
  intro b o n c e hn
  rw [hv] at e
  simp only [Value.slice.injEq] at e
  obtain ⟨e1, e2, _⟩ := e
  obtain ⟨b', o', e', hcell⟩ := hc 0 ks[0] (List.getElem?_eq_getElem (by omega))
  rw [e'] at e1
  simp only [Option.some.injEq, Addr.mk.injEq, and_true] at e1
  rw [← e1.1]
  exact World.block_lt_of_cell? w _ hcell

/-- How many blocks below k are among those that are put. -/
def cntIn (f n k : Nat) : Nat := (List.range k).countP (isIn f n)
theorem cntIn_le (f n k : Nat) : cntIn f n k ≤ k := by
  have := List.countP_le_length (p := isIn f n) (l := List.range k)
  simpa [cntIn] using this
theorem cntIn_succ (f n k : Nat) : cntIn f n (k + 1) = cntIn f n k + if isIn f n k = true then 1 else 0 := by
  simp [cntIn, List.range_succ, List.countP_append, List.countP_cons]

theorem countP_or (P Q : Nat → Bool) : ∀ l : List Nat, l.countP (fun i => P i || Q i) = l.countP P + l.countP (fun i => Q i && !P i)
  | [] => rfl
  | a :: l => by
    have ih := countP_or P Q l
    simp only [List.countP_cons, ih]
    cases P a <;> cases Q a <;> simp <;> omega
theorem cnt_one (a : Nat) (h : a < 100) : (List.range 100).countP (fun i => i == a) = 1 := by
  have : ∀ a : Fin 100, (List.range 100).countP (fun i => i == a.val) = 1 := by decide +kernel
  exact this ⟨a, h⟩
theorem cnt_all (f n : Nat) (hf : f < 100) (hn : n ≤ 100) : cntIn f n 100 = n := by
  induction n with
  | zero =>
    have : cntIn f 0 100 = (List.range 100).countP (fun _ => false) := by
      unfold cntIn
      congr 1
    rw [this]; simp
  | succ n ih =>
    have ih := ih (by omega)
    have e : cntIn f (n + 1) 100 = (List.range 100).countP (fun i => isIn f n i || (i == (f + n) % 100)) := by
      unfold cntIn
      apply List.countP_congr
      intro i hi
      rw [List.mem_range] at hi
      simp only [isIn, Bool.or_eq_true, decide_eq_true_eq, beq_iff_eq]
      omega
    have e2 : (List.range 100).countP (fun i => (i == (f + n) % 100) && !isIn f n i) = (List.range 100).countP (fun i => i == (f + n) % 100) := by
      apply List.countP_congr
      intro i hi
      rw [List.mem_range] at hi
      simp only [isIn, Bool.and_eq_true, beq_iff_eq, Bool.not_eq_true', decide_eq_false_iff_not]
      omega
    rw [e, countP_or, e2, cnt_one _ (by omega)]
    unfold cntIn at ih
    omega
theorem pad3 (s : ByteArray) (hs : s.data.toList.length = 3) : ((pad s).extract 0 3).toList = s.data.toList := by
  rw [ByteArray.toList_eq, ByteArray.data_extract, Array.toList_extract, pad_list]
  simp [List.extract, hs]
theorem zs_zero : ∀ hh, ((zs 256)[0]'hh).toNat = 0 := by
  intro hh
  rfl

set_option maxRecDepth 100000 in
set_option maxHeartbeats 8000000 in
theorem whole_law (w : World) (many die : Int) (av kv : Value) (xs ks : List Int) (m0 : -9223372036854775808 ≤ many) (m1 : many ≤ 9223372036854775807) (d0 : -9223372036854775808 ≤ die) (d1 : die ≤ 9223372036854775807)
    (ha : IntsAt w av xs) (hal : xs.length ≤ 9223372036854775807) (hk : IntsAt w kv ks) :
    Calls Try.prog 4 #[.int .i64 many, av, .int .i64 die, kv] w fun e w' => e = .returned (.bool true) ∧ Below w.heap.size w w' := by
  obtain ⟨p0, p1⟩ := pickN_range many 80 (by omega)
  obtain ⟨m, hm⟩ := Int.eq_ofNat_of_zero_le p0
  have hm80 : m < 80 := by omega
  obtain ⟨⟨ao, acap, rfl, hac⟩, hab⟩ := ha
  have HM := hide hm
  have HAC := hide hac
  have HK := hide hk
  clear hm p0 p1 hac hk
  go_enter Try.func4, Try.ntmps4
  go_wp2_with fail
  refine (new_any _ 190 (by omega) (by omega)).mono ?_
  rintro e w1 ⟨bd, bs, rfl, h1, b1, lbd, lbs⟩
  have sz1 := b1.size
  obtain ⟨no1, no2⟩ := new_opens 190
  have NO1 := hide no1
  have NO2 := hide no2
  clear no1 no2
  have hlen0 : (newDk 190).safe.length = 190 := List.length_replicate
  have HL0 := hide hlen0
  clear hlen0
  go_wp2_with fail
  refine (open_any w1 w.heap.size bd bs (.slice none 0 0) (newDk 190) [] h1 sz1 lbd lbs (by simp [Value.ownBlock]) (newDk_ok 190 (by omega)) (by rw [unhide HL0]; omega) (by show (0 : Nat) ≤ _; omega) (fun _ => unhide NO2) (by simp) (by simp) (by simp [inRoom])).mono ?_
  rintro e w2 ⟨lv2, _, b2, ho, _⟩
  obtain ⟨he, s2⟩ := ho (by rw [unhide NO1])
  subst he
  rw [unhide NO1] at s2
  have b02 : Below w.heap.size w w2 := b1.trans b2
  have S2 := hide s2
  have B02 := hide b02
  clear s2 b2 b1 b02 ho h1 NO1 NO2
  go_wp2_with fail
  refine (pick_any _ many 80 m0 m1 (by omega) (by omega)).mono ?_
  rintro e w3 ⟨rfl, hw3⟩
  have hw3 := hw3.symm
  subst hw3
  rw [unhide HM]
  go_upto_if 45 with fail
  go_cut [13] (fun v wc => wc = w2 ∧ ∃ f : Nat, f < 100 ∧ v = .int .i64 f)
  case first =>
    by_cases hx : 0 < xs.length
    · obtain ⟨x, hx0⟩ : ∃ x, xs[0]? = some x := ⟨xs[0], List.getElem?_eq_getElem hx⟩
      obtain ⟨q0, q1⟩ := pickN_range x 100 (by omega)
      obtain ⟨f, hf⟩ := Int.eq_ofNat_of_zero_le q0
      have hf100 : f < 100 := by omega
      obtain ⟨xb, xo, rfl, hxc⟩ := (unhide HAC) 0 x hx0
      obtain ⟨x0, x1⟩ := hab x (List.mem_of_getElem? hx0)
      have lxb := World.block_lt_of_cell? w _ hxc
      have hxc2 := ((unhide B02).cell (p := ⟨xb, xo + 0, none⟩) lxb).trans hxc
      rw [Nat.add_zero] at hxc2
      have HF := hide hf
      have hx' : (0 : Int) < (xs.length : Int) := by omega
      clear hf q0 q1 hx0 hxc hab
      go_wp2_with fail
      refine (pick_any _ x 100 x0 x1 (by omega) (by omega)).mono ?_
      rintro e w3 ⟨rfl, hw3⟩
      have hw3 := hw3.symm
      subst hw3
      rw [unhide HF]
      go_wp2_with fail
      go_meet
      case rel => exact ⟨rfl, f, hf100, rfl⟩
    · have hx' : ¬ (0 : Int) < (xs.length : Int) := by omega
      go_wp2_with fail
      go_meet
      case rel => exact ⟨rfl, 0, by omega, rfl⟩
  case rest =>
    obtain ⟨rfl, f, hf100, rfl⟩ := hcut
    go_wp2_with fail
    go_loopw [14] (fun i wr => ∃ (k : Nat) (pv : Value), k ≤ m + 1 ∧ i = .int .i64 k ∧ Sys wr w.heap.size w1.heap.size bd bs pv lv2 (psOf f k ⟨#[111, 110, 101]⟩) false (newDk 190) ∧ Below w.heap.size w wr) (fun i _ => m + 1 - (intOf i).toNat)
    case atStart => exact ⟨0, .slice none 0 0, Nat.zero_le _, rfl, unhide S2, unhide B02⟩
    case round =>
      obtain ⟨k, pv, hk, rfl, sr, br⟩ := hrel
      have hpl := psOf_len f k ⟨#[111, 110, 101]⟩
      have HSR := hide sr
      have HBR := hide br
      clear sr br
      by_cases hlt : k < m + 1
      · have hlt' : (k : Int) < 1 + (m : Int) := by omega
        have HPL := hide hpl
        clear hpl
        go_wp2_with fail
        rw [show ((f : Int) + (k : Int)) % 100 = (((f + k) % 100 : Nat) : Int) by omega]
        refine (put_any wr w1.heap.size bd bs pv lv2 (psOf f k ⟨#[111, 110, 101]⟩) false (newDk 190) (((f + k) % 100 : Nat) : Int) ⟨#[111, 110, 101]⟩ (unhide HSR).log (unhide HSR).disk (by rw [unhide HL0]; omega) (by rw [unhide HPL]; omega)).mono ?_
        rintro e w4 ⟨pv4, rfl, l4, st4⟩
        rw [unhide HL0, putL_psOf f k ⟨#[111, 110, 101]⟩ (by omega) (by decide)] at l4 ⊢
        obtain ⟨s4, b4⟩ := (unhide HSR).ofLog l4 st4
        have HS4 := hide s4
        have HB4 := hide b4
        clear s4 b4 l4 st4
        go_wp2_with fail
        go_roundw
        case rel => exact ⟨k + 1, pv4, by omega, by go_num, unhide HS4, (unhide HBR).trans (unhide HB4)⟩
        case measure => simp [intOf]; omega
      · have hke : k = m + 1 := by omega
        subst hke
        have hge : ¬ (((m + 1 : Nat) : Int) < 1 + (m : Int)) := by omega
        have hps1 : ∀ p ∈ psOf f (m + 1) ⟨#[111, 110, 101]⟩, 90 + p.1 < (newDk 190).safe.length := fun p hp => by
          obtain ⟨j, _, rfl⟩ := psOf_mem hp
          rw [unhide HL0]; simp only; omega
        have hsz1 : ∀ p ∈ psOf f (m + 1) ⟨#[111, 110, 101]⟩, p.2.size ≤ 256 := fun p hp => by
          obtain ⟨j, _, rfl⟩ := psOf_mem hp
          exact Nat.le_of_eq (pad_size (by decide))
        have HP1 := hide hps1
        have HZ1 := hide hsz1
        have HPL := hide hpl
        clear hps1 hsz1 hpl
        go_wp2_with fail
        refine (commit_any wr w.heap.size w1.heap.size bd bs pv lv2 (psOf f (m + 1) ⟨#[111, 110, 101]⟩) false (newDk 190) (unhide HSR) (newDk_ok 190 (by omega)) (by rw [unhide HL0]; omega) (by show (0 : Nat) ≤ _; omega) (by rw [unhide HPL]; omega) (unhide HP1) (unhide HZ1)).mono ?_
        rintro e w5 ⟨lv5, rfl, s5, b5, _⟩
        obtain ⟨fc1, fc2, fc3⟩ := first_commit f (m + 1) ⟨#[111, 110, 101]⟩ hf100 (by omega) (by omega) (by decide)
        rw [fc1]
        rw [fc2] at s5
        generalize (commitL (newDk 190) (psOf f (m + 1) ⟨#[111, 110, 101]⟩) false).2.1 = dA at s5 fc3
        have b05 := (unhide HBR).trans b5
        have HS5 := hide s5
        have HB5 := hide b05
        have HFC := hide fc3
        have HLA := hide fc3.len
        clear s5 b5 b05 fc1 fc2 fc3 HP1 HZ1 HPL HSR HBR
        go_wp2_with fail
        go_loopw [17] (fun i wr => ∃ (k : Nat) (pv : Value), k ≤ m + 1 ∧ i = .int .i64 k ∧ Sys wr w.heap.size w1.heap.size bd bs pv lv5 (psOf f k ⟨#[116, 119, 111]⟩) false dA ∧ Below w.heap.size w wr) (fun i _ => m + 1 - (intOf i).toNat)
        case atStart => exact ⟨0, .slice none 0 0, Nat.zero_le _, rfl, unhide HS5, unhide HB5⟩
        case round =>
          obtain ⟨k, pv, hk, rfl, sr, br⟩ := hrel
          have hpl := psOf_len f k ⟨#[116, 119, 111]⟩
          have HSR := hide sr
          have HBR := hide br
          clear sr br
          by_cases hlt : k < m + 1
          · have hlt' : (k : Int) < 1 + (m : Int) := by omega
            have HPL := hide hpl
            clear hpl
            go_wp2_with fail
            rw [show ((f : Int) + (k : Int)) % 100 = (((f + k) % 100 : Nat) : Int) by omega]
            refine (put_any wr w1.heap.size bd bs pv lv5 (psOf f k ⟨#[116, 119, 111]⟩) false dA (((f + k) % 100 : Nat) : Int) ⟨#[116, 119, 111]⟩ (unhide HSR).log (unhide HSR).disk (by rw [unhide HLA]; omega) (by rw [unhide HPL]; omega)).mono ?_
            rintro e w4 ⟨pv4, rfl, l4, st4⟩
            rw [unhide HLA, putL_psOf f k ⟨#[116, 119, 111]⟩ (by omega) (by decide)] at l4 ⊢
            obtain ⟨s4, b4⟩ := (unhide HSR).ofLog l4 st4
            have HS4 := hide s4
            have HB4 := hide b4
            clear s4 b4 l4 st4
            go_wp2_with fail
            go_roundw
            case rel => exact ⟨k + 1, pv4, by omega, by go_num, unhide HS4, (unhide HBR).trans (unhide HB4)⟩
            case measure => simp [intOf]; omega
          · have hke : k = m + 1 := by omega
            subst hke
            have hge : ¬ (((m + 1 : Nat) : Int) < 1 + (m : Int)) := by omega
            clear hpl
            go_wp2_with fail
            obtain ⟨dl0, dl1⟩ := pickN_range die (2 * (1 + (m : Int)) + 9) (by omega)
            refine (pick_any _ die (2 * (1 + (m : Int)) + 9) d0 d1 (by omega) (by omega)).mono ?_
            rintro e w6 ⟨rfl, hw6⟩
            have hw6 := hw6.symm
            subst hw6
            generalize pickN die (2 * (1 + (m : Int)) + 9) = L at dl0 dl1
            go_wp2_with fail
            refine (die_any wr bd bs lv5 dA L (unhide HSR).disk dl0).mono ?_
            rintro e w6 ⟨rfl, d6, st6, _⟩
            obtain ⟨s6, b6⟩ := (unhide HSR).ofDisk d6 st6
            have HS6 := hide s6
            have HB6 := hide ((unhide HBR).trans b6)
            clear s6 b6 d6 st6 HSR HBR
            obtain ⟨sc1, sc2, sc3, sc4, sc5⟩ := second_commit f (m + 1) ⟨#[111, 110, 101]⟩ ⟨#[116, 119, 111]⟩ dA L hf100 (by omega) (by omega) (by decide) (unhide HFC) dl0 (by omega)
            have okL : ({ dA with life := L } : Dk).Ok := ⟨(unhide HFC).ok.w0, (unhide HFC).ok.w1, by simp only; omega, by simp only; omega, (unhide HFC).ok.f0, (unhide HFC).ok.f1, (unhide HFC).ok.n, (unhide HFC).ok.lt⟩
            have hps2 : ∀ p ∈ psOf f (m + 1) ⟨#[116, 119, 111]⟩, 90 + p.1 < ({ dA with life := L } : Dk).safe.length := fun p hp => by
              obtain ⟨j, _, rfl⟩ := psOf_mem hp
              simp only; rw [unhide HLA]; omega
            have hsz2 : ∀ p ∈ psOf f (m + 1) ⟨#[116, 119, 111]⟩, p.2.size ≤ 256 := fun p hp => by
              obtain ⟨j, _, rfl⟩ := psOf_mem hp
              exact Nat.le_of_eq (pad_size (by decide))
            have hpl2 := psOf_len f (m + 1) ⟨#[116, 119, 111]⟩
            have hlate : ({ dA with life := L } : Dk).late.length ≤ 800000 := by simp only; rw [(unhide HFC).late]; simp
            have hlenL : 90 < ({ dA with life := L } : Dk).safe.length := by simp only; rw [unhide HLA]; omega
            have HOK := hide okL
            have HP2 := hide hps2
            have HZ2 := hide hsz2
            have HPL := hide hpl2
            have HLT := hide hlate
            have HLL := hide hlenL
            have H1 := hide sc1
            have H2 := hide sc2
            have H3 := hide sc3
            have H4 := hide sc4
            have H5 := hide sc5
            clear sc1 sc2 sc3 sc4 sc5 okL hps2 hsz2 hpl2 hlate hlenL
            go_wp2_with fail
            refine (commit_any w6 w.heap.size w1.heap.size bd bs pv lv5 (psOf f (m + 1) ⟨#[116, 119, 111]⟩) false { dA with life := L } (unhide HS6) (unhide HOK) (unhide HLL) (unhide HLT) (by rw [unhide HPL]; omega) (unhide HP2) (unhide HZ2)).mono ?_
            rintro e w7 ⟨lv7, rfl, s7, b7, _⟩
            have h1' := unhide H1
            have h2' := unhide H2
            have h3' := unhide H3
            have h4' := unhide H4
            have h5' := (unhide H5) ks
            clear H1 H2 H3 H4 H5
            generalize hr : commitL { dA with life := L } (psOf f (m + 1) ⟨#[116, 119, 111]⟩) false = r at s7 h1' h2' h3' h4' h5' ⊢
            clear hr
            obtain ⟨c, dB, brB⟩ := r
            simp only at s7 h1' h2' h3' h4' h5' ⊢
            obtain ⟨k1, k2, psR, k3, k4, k5, k6, k7, k8, k9, k10, V, k11, k12⟩ := h5'
            have b07 := (unhide HB6).trans b7
            have HS7 := hide s7
            have HB7 := hide b07
            have HK1 := hide k1
            have HK2 := hide k2
            have HK4 := hide k4
            have HK5 := hide k5
            have HK6 := hide k6
            have HK7 := hide k7
            have HK8 := hide k8
            have HK9 := hide k9
            have HK10 := hide k10
            have HK12 := hide k12
            have H1 := hide h1'
            have H2 := hide h2'
            have H3 := hide h3'
            clear s7 b7 b07 k1 k2 k4 k5 k6 k7 k8 k9 k10 k12 h1' h2' h3' HS6 HB6 HOK HP2 HZ2 HPL HLT HLL
            go_wp2_with fail
            refine (dead_any w7 bd bs lv7 dB (unhide HS7).disk).mono ?_
            rintro e w8 ⟨rfl, hw8⟩
            have hw8 := hw8.symm
            subst hw8
            have hkw7 := (unhide HK).below (unhide HB7)
            have hfar : ∀ b o n c, kv = .slice (some ⟨b, o, none⟩) n c → 0 < n → b < w7.heap.size ∧ b ≠ bd ∧ b ≠ bs ∧ lv7.ownBlock ≠ some b := fun b o n c e hn => by
              have hlt := (unhide HK).lt b o n c e hn
              have hsz := (unhide HB7).size
              refine ⟨by omega, by omega, by omega, fun e => ?_⟩
              have := (unhide HS7).sep.bv0 b e
              omega
            have HKW := hide hkw7
            have HFAR := hide hfar
            clear hkw7 hfar
            go_wp2_with fail
            refine (crash_any w7 bd bs lv7 kv dB ks (unhide HS7).disk (unhide H1) (by have := unhide H2; omega) (unhide HKW) (unhide HFAR)).mono ?_
            rintro e w8 ⟨lv8, rfl, d8, st8⟩
            obtain ⟨s8, b8⟩ := (unhide HS7).ofDisk d8 st8
            have HS8 := hide s8
            have HB8 := hide ((unhide HB7).trans b8)
            clear s8 b8 d8 st8 HS7 HB7 HKW HFAR
            go_wp2_with fail
            refine (open_any w8 w.heap.size bd bs lv8 (dB.crash ks) psR (unhide HS8).disk (unhide HS8).base (unhide HS8).sep.bd0 (unhide HS8).sep.bs0 (unhide HS8).sep.bv0 (unhide HK1) (by rw [unhide HK2]; omega) (by show (0 : Nat) ≤ _; omega) (fun _ => unhide HK5) k3 (unhide HK4) (unhide HK6)).mono ?_
            rintro e w9 ⟨lv9, _, b9, ho, _⟩
            obtain ⟨he, s9⟩ := ho (unhide HK7)
            subst he
            have HS9 := hide s9
            have HB9 := hide ((unhide HB8).trans b9)
            clear s9 b9 ho HS8 HB8
            generalize hD : ((dB.crash ks).redo psR).2 = D at HS9 HK8 HK9 HK10 HK12
            clear hD HK1 HK2 HK4 HK5 HK6 HK7
            have hDl : D.safe.length ≤ 4096 := by rw [unhide HK8]; omega
            have hDt : D.late.length ≤ 1000000 := by rw [unhide HK9]; simp
            have hgl : ∀ k : Nat, k < 100 → getL D [] false (k : Int) = (if isIn f (m + 1) k = true then pad V else zs 256, 0) := fun k hk => by
              have h1 : hasB D.safe.length (k : Int) = true := by rw [unhide HK8]; simp [hasB]; omega
              have h2 : ¬ (D.life = 0 ∨ false = true) := by rw [unhide HK10]; simp
              have h3 : ¬ (0 ≤ idx [] (k : Int)) := by simp [idx]
              rw [getL, if_neg (by rw [h1]; simp), if_neg h2, if_neg h3, Int.toNat_natCast, (unhide HK12) k hk]
            have HGL := hide hgl
            clear hgl HK8 HK9 HK10 HK12
            rcases k11 with rfl | ⟨rfl, rfl⟩
            · rcases h4' with rfl | ⟨rfl, hdead⟩
              · skip
                go_wp2_with fail
                go_loopw [23, 24] (fun tw i wr => ∃ k : Nat, k ≤ 100 ∧ i = .int .i64 k ∧ tw = .int .i64 ((cntIn f (m + 1) k : Nat) : Int) ∧ Below w9.heap.size w9 wr) (fun _ i _ => 100 - (intOf i).toNat)
                case atStart => exact ⟨0, Nat.zero_le _, rfl, rfl, Below.refl _ _⟩
                case round =>
                  obtain ⟨k, hk, rfl, rfl, bK⟩ := hrel
                  have hcl := cntIn_le f (m + 1) k
                  by_cases hlt : k < 100
                  · have lK := (unhide HS9).log.below bK
                    have dK := (unhide HS9).disk.below bK
                    have hg := (unhide HGL) k hlt
                    have HLK := hide lK
                    have HDK := hide dK
                    have HBK := hide bK
                    clear lK dK bK
                    cases hin : isIn f (m + 1) k with
                    | true =>
                      rw [hin, if_pos rfl] at hg
                      have HG := hide hg
                      clear hg
                      have hin' : ((k : Int) + 100 - (f : Int)) % 100 < 1 + (m : Int) := by unfold isIn at hin; simp at hin; omega
                      have HIN := hide hin
                      clear hin
                      go_wp2_with fail
                      refine (get_any wr w8.heap.size bd bs (.slice none 0 0) lv9 [] false D (k : Int) (unhide HLK) (unhide HDK) hDl hDt (by simp)).mono ?_
                      rintro e wG ⟨rfl, bG⟩
                      rw [unhide HG]
                      have hvs := pad_size (s := ⟨#[116, 119, 111]⟩) (by decide)
                      have hv3 := pad3 ⟨#[116, 119, 111]⟩ (by decide)
                      generalize pad ⟨#[116, 119, 111]⟩ = v at hvs hv3 ⊢
                      simp only at hv3
                      have HBG := hide ((unhide HBK).trans (bG.mono (unhide HBK).size))
                      clear bG HBK HLK HDK
                      go_wp2_with fail
                      go_roundw
                      case rel =>
                        refine ⟨k + 1, by omega, by go_num, ?_, unhide HBG⟩
                        rw [cntIn_succ, unhide HIN]; go_num
                      case measure => simp [intOf]; omega
                    | false =>
                      rw [hin, if_neg (by decide)] at hg
                      have HG := hide hg
                      clear hg
                      have hin' : ¬ ((k : Int) + 100 - (f : Int)) % 100 < 1 + (m : Int) := by unfold isIn at hin; simp at hin; omega
                      have HIN := hide hin
                      clear hin
                      go_wp2_with fail
                      refine (get_any wr w8.heap.size bd bs (.slice none 0 0) lv9 [] false D (k : Int) (unhide HLK) (unhide HDK) hDl hDt (by simp)).mono ?_
                      rintro e wG ⟨rfl, bG⟩
                      rw [unhide HG]
                      have hvs := zs_size 256
                      have hv0 := zs_zero
                      generalize zs 256 = v at hvs hv0 ⊢
                      have HBG := hide ((unhide HBK).trans (bG.mono (unhide HBK).size))
                      clear bG HBK HLK HDK
                      go_wp2_with fail
                      go_roundw
                      case rel =>
                        refine ⟨k + 1, by omega, by go_num, ?_, unhide HBG⟩
                        rw [cntIn_succ, unhide HIN]; rfl
                      case measure => simp [intOf]; omega
                  · have hke : k = 100 := by omega
                    subst hke
                    have HBK := hide bK
                    clear bK hcl
                    rw [cnt_all f (m + 1) hf100 (by omega)]
                    have hne : ((((m + 1 : Nat)) : Int) == 0) = false := by rw [beq_eq_false_iff_ne]; omega
                    have heq : ((((m + 1 : Nat)) : Int) == 1 + (m : Int)) = true := by rw [beq_iff_eq]; omega
                    go_wp2_with fail
                    go_ret
                    refine ⟨?_, (unhide HB9).trans ((unhide HBK).mono (unhide HB9).size)⟩
                    rw [show Ending.returned (.bool true) = Ending.returned (.bool (((m : Int) + 1) == 1 + (m : Int))) by rw [show (((m : Int) + 1) == 1 + (m : Int)) = true by rw [beq_iff_eq]; omega]]; rfl
              · skip
                go_wp2_with fail
                go_loopw [23, 24] (fun tw i wr => ∃ k : Nat, k ≤ 100 ∧ i = .int .i64 k ∧ tw = .int .i64 ((cntIn f (m + 1) k : Nat) : Int) ∧ Below w9.heap.size w9 wr) (fun _ i _ => 100 - (intOf i).toNat)
                case atStart => exact ⟨0, Nat.zero_le _, rfl, rfl, Below.refl _ _⟩
                case round =>
                  obtain ⟨k, hk, rfl, rfl, bK⟩ := hrel
                  have hcl := cntIn_le f (m + 1) k
                  by_cases hlt : k < 100
                  · have lK := (unhide HS9).log.below bK
                    have dK := (unhide HS9).disk.below bK
                    have hg := (unhide HGL) k hlt
                    have HLK := hide lK
                    have HDK := hide dK
                    have HBK := hide bK
                    clear lK dK bK
                    cases hin : isIn f (m + 1) k with
                    | true =>
                      rw [hin, if_pos rfl] at hg
                      have HG := hide hg
                      clear hg
                      have hin' : ((k : Int) + 100 - (f : Int)) % 100 < 1 + (m : Int) := by unfold isIn at hin; simp at hin; omega
                      have HIN := hide hin
                      clear hin
                      go_wp2_with fail
                      refine (get_any wr w8.heap.size bd bs (.slice none 0 0) lv9 [] false D (k : Int) (unhide HLK) (unhide HDK) hDl hDt (by simp)).mono ?_
                      rintro e wG ⟨rfl, bG⟩
                      rw [unhide HG]
                      have hvs := pad_size (s := ⟨#[116, 119, 111]⟩) (by decide)
                      have hv3 := pad3 ⟨#[116, 119, 111]⟩ (by decide)
                      generalize pad ⟨#[116, 119, 111]⟩ = v at hvs hv3 ⊢
                      simp only at hv3
                      have HBG := hide ((unhide HBK).trans (bG.mono (unhide HBK).size))
                      clear bG HBK HLK HDK
                      go_wp2_with fail
                      go_roundw
                      case rel =>
                        refine ⟨k + 1, by omega, by go_num, ?_, unhide HBG⟩
                        rw [cntIn_succ, unhide HIN]; go_num
                      case measure => simp [intOf]; omega
                    | false =>
                      rw [hin, if_neg (by decide)] at hg
                      have HG := hide hg
                      clear hg
                      have hin' : ¬ ((k : Int) + 100 - (f : Int)) % 100 < 1 + (m : Int) := by unfold isIn at hin; simp at hin; omega
                      have HIN := hide hin
                      clear hin
                      go_wp2_with fail
                      refine (get_any wr w8.heap.size bd bs (.slice none 0 0) lv9 [] false D (k : Int) (unhide HLK) (unhide HDK) hDl hDt (by simp)).mono ?_
                      rintro e wG ⟨rfl, bG⟩
                      rw [unhide HG]
                      have hvs := zs_size 256
                      have hv0 := zs_zero
                      generalize zs 256 = v at hvs hv0 ⊢
                      have HBG := hide ((unhide HBK).trans (bG.mono (unhide HBK).size))
                      clear bG HBK HLK HDK
                      go_wp2_with fail
                      go_roundw
                      case rel =>
                        refine ⟨k + 1, by omega, by go_num, ?_, unhide HBG⟩
                        rw [cntIn_succ, unhide HIN]; rfl
                      case measure => simp [intOf]; omega
                  · have hke : k = 100 := by omega
                    subst hke
                    have HBK := hide bK
                    clear bK hcl
                    rw [cnt_all f (m + 1) hf100 (by omega)]
                    have hne : ((((m + 1 : Nat)) : Int) == 0) = false := by rw [beq_eq_false_iff_ne]; omega
                    have heq : ((((m + 1 : Nat)) : Int) == 1 + (m : Int)) = true := by rw [beq_iff_eq]; omega
                    go_wp2_with fail
                    go_ret
                    refine ⟨?_, (unhide HB9).trans ((unhide HBK).mono (unhide HB9).size)⟩
                    rw [show Ending.returned (.bool true) = Ending.returned (.bool (((m : Int) + 1) == 1 + (m : Int))) by rw [show (((m : Int) + 1) == 1 + (m : Int)) = true by rw [beq_iff_eq]; omega]]; rfl
            · rcases h4' with h0 | ⟨_, hdead⟩
              · cases h0
              · skip
                go_wp2_with fail
                go_loopw [23, 24] (fun tw i wr => ∃ k : Nat, k ≤ 100 ∧ i = .int .i64 k ∧ tw = .int .i64 0 ∧ Below w9.heap.size w9 wr) (fun _ i _ => 100 - (intOf i).toNat)
                case atStart => exact ⟨0, Nat.zero_le _, rfl, rfl, Below.refl _ _⟩
                case round =>
                  obtain ⟨k, hk, rfl, rfl, bK⟩ := hrel
                  have hcl := cntIn_le f (m + 1) k
                  by_cases hlt : k < 100
                  · have lK := (unhide HS9).log.below bK
                    have dK := (unhide HS9).disk.below bK
                    have hg := (unhide HGL) k hlt
                    have HLK := hide lK
                    have HDK := hide dK
                    have HBK := hide bK
                    clear lK dK bK
                    cases hin : isIn f (m + 1) k with
                    | true =>
                      rw [hin, if_pos rfl] at hg
                      have HG := hide hg
                      clear hg
                      have hin' : ((k : Int) + 100 - (f : Int)) % 100 < 1 + (m : Int) := by unfold isIn at hin; simp at hin; omega
                      have HIN := hide hin
                      clear hin
                      go_wp2_with fail
                      refine (get_any wr w8.heap.size bd bs (.slice none 0 0) lv9 [] false D (k : Int) (unhide HLK) (unhide HDK) hDl hDt (by simp)).mono ?_
                      rintro e wG ⟨rfl, bG⟩
                      rw [unhide HG]
                      have hvs := pad_size (s := ⟨#[111, 110, 101]⟩) (by decide)
                      have hv3 := pad3 ⟨#[111, 110, 101]⟩ (by decide)
                      generalize pad ⟨#[111, 110, 101]⟩ = v at hvs hv3 ⊢
                      simp only at hv3
                      have HBG := hide ((unhide HBK).trans (bG.mono (unhide HBK).size))
                      clear bG HBK HLK HDK
                      go_wp2_with fail
                      go_roundw
                      case rel =>
                        refine ⟨k + 1, by omega, by go_num, ?_, unhide HBG⟩
                        rfl
                      case measure => simp [intOf]; omega
                    | false =>
                      rw [hin, if_neg (by decide)] at hg
                      have HG := hide hg
                      clear hg
                      have hin' : ¬ ((k : Int) + 100 - (f : Int)) % 100 < 1 + (m : Int) := by unfold isIn at hin; simp at hin; omega
                      have HIN := hide hin
                      clear hin
                      go_wp2_with fail
                      refine (get_any wr w8.heap.size bd bs (.slice none 0 0) lv9 [] false D (k : Int) (unhide HLK) (unhide HDK) hDl hDt (by simp)).mono ?_
                      rintro e wG ⟨rfl, bG⟩
                      rw [unhide HG]
                      have hvs := zs_size 256
                      have hv0 := zs_zero
                      generalize zs 256 = v at hvs hv0 ⊢
                      have HBG := hide ((unhide HBK).trans (bG.mono (unhide HBK).size))
                      clear bG HBK HLK HDK
                      go_wp2_with fail
                      go_roundw
                      case rel =>
                        refine ⟨k + 1, by omega, by go_num, ?_, unhide HBG⟩
                        rfl
                      case measure => simp [intOf]; omega
                  · have hke : k = 100 := by omega
                    subst hke
                    have HBK := hide bK
                    clear bK hcl
                    skip
                    go_wp2_with fail
                    go_ret
                    refine ⟨?_, (unhide HB9).trans ((unhide HBK).mono (unhide HB9).size)⟩
                    rfl
end Go.Proofs.Ytcbindgpbeaebaa
