import Derived.Test.YtcbindgpbeaebaaDoorKeepB
import Derived.Deep.DeepCutAuto
namespace Go.Proofs.YtcbindgpbeaebaaDoor
open Go.RowKit Go.Deep
attribute [local go_sem ↓] Go.wp_at_zero Go.wp_at_succ

theorem pick_range (c n : Int) (hn : 0 < n) : 0 ≤ pickN c n ∧ pickN c n < n := by
  unfold pickN
  exact ⟨Int.emod_nonneg _ (by omega), Int.emod_lt_of_pos _ hn⟩
theorem GAt.zero {w wr : World} {bb bl bd bs : Nat} {cf : Nat → Nat} (h : GAt w bb bl bd bs cf 0 wr) (cf' : Nat → Nat) : GAt w bb bl bd bs cf' 0 wr := by
  obtain ⟨lv, d, M, h1, h2, h3, h4, h5⟩ := h
  refine ⟨lv, d, M, h1, h2, h3, ⟨h4.dir, fun p hp => ?_, fun i hi => by omega, h4.len⟩, h5⟩
  rcases h4.mem p hp with e | ⟨i, hi, _⟩
  · exact .inl e
  · omega
/-- The number that the law gives a node. -/
def cfOf (k : Nat) (xs : List Int) (i : Nat) : Nat := k + (match xs[i]? with | some x => (pickN x 1048576).toNat | none => 0)
theorem cfOf_some {k : Nat} {xs : List Int} {i : Nat} {x : Int} (h : xs[i]? = some x) : (k : Int) + pickN x 1048576 = (cfOf k xs i : Int) := by
  have := (pick_range x 1048576 (by omega)).1
  unfold cfOf
  rw [h]
  dsimp only
  rw [Int.natCast_add, Int.toNat_of_nonneg this]
theorem cfOf_none {k : Nat} {xs : List Int} {i : Nat} (h : ¬ i < xs.length) : (k : Int) = (cfOf k xs i : Int) := by
  unfold cfOf
  rw [List.getElem?_eq_none (by omega)]
  rfl
theorem pick_nat (x : Int) : (pickN x 1048576).toNat ≤ 1048575 := by
  have h1 := pick_range x 1048576 (by omega)
  have h2 := (Int.toNat_lt (n := 1048576) h1.1).2 h1.2
  exact Nat.le_of_lt_succ h2
theorem cfOf_le {k : Nat} (hk : k ≤ 2) (xs : List Int) (i : Nat) : cfOf k xs i ≤ 1048578 := by
  unfold cfOf
  cases xs[i]? with
  | some x =>
    have h := pick_nat x
    exact Nat.le_trans (Nat.add_le_add hk h) (show 2 + 1048575 ≤ 1048578 by decide)
  | none => dsimp only; omega

set_option maxRecDepth 100000 in
set_option maxHeartbeats 25600000 in
theorem grown_law (w : World) (av : Value) (xs : List Int) (rounds : Int) (m0 : -9223372036854775808 ≤ rounds) (m1 : rounds ≤ 9223372036854775807) (ha : IntsAt w av xs) :
    Calls Tryd.prog 4 #[av, .int .i64 rounds] w fun e w' => e = .returned (.bool true) ∧ Below w.heap.size w w' := by
  obtain ⟨p0, p1⟩ := pick_range rounds 3 (by omega)
  obtain ⟨m, hm⟩ := Int.eq_ofNat_of_zero_le p0
  have hm3 : m < 3 := by omega
  obtain ⟨⟨ao, acap, rfl, hac⟩, hab⟩ := ha
  have HM := hide hm
  have HAC := hide hac
  have HAB := hide hab
  clear hm p0 p1 hac hab
  go_enter Tryd.func4, Tryd.ntmps4
  go_wp2_with fail
  refine (new_any _ 300 (by omega) (by omega)).mono ?_
  rintro e w1 ⟨bd, bs, rfl, h1, b1, lbd, lbs⟩
  have sz1 := b1.size
  have hop := bopen_any w1 w.heap.size bd bs (.slice none 0 0) (newDk 300) [] h1 sz1 lbd lbs (by simp [Value.ownBlock]) (newDk_ok 300 (by omega)) (by rw [show (newDk 300).safe.length = 300 from List.length_replicate]; omega) (by show (0 : Nat) ≤ _; omega) (fun _ => (new_opens 300).2) (by simp) (by simp) (by simp [inRoom])
  rw [(new_opens 300).1] at hop
  have HOP := hide hop
  clear hop
  go_wp2_with fail
  refine (unhide HOP).mono ?_
  rintro e w2 ⟨lv2, _, b2, ⟨bb, _, _, lbb, rfl, a2, s2⟩ | ⟨q, _⟩⟩
  rotate_left
  · exfalso
    rcases q with q | q
    · cases q
    · exact absurd q (by decide)
  have b02 : Below w.heap.size w w2 := b1.trans b2
  obtain ⟨bl, hbl⟩ : ∃ bl, bl = w1.heap.size := ⟨_, rfl⟩
  rw [← hbl] at a2 s2
  have hbb : w.heap.size ≤ bb := Nat.le_trans sz1 lbb
  obtain ⟨W, hW⟩ : ∃ W, W = w2.alloc (.cells #[.bool false, .string ⟨#[100]⟩, .int .i64 2, .int .i64 1, .int .i64 0, .string ⟨#[]⟩] 47) := ⟨_, rfl⟩
  have hbW : Below w2.heap.size w2 W := by rw [hW]; exact (Below.refl _ w2).alloc (Nat.le_refl _) _
  have hdir := dir_law w W bb bl bd bs hbb lv2 (a2.kept (hbW.block bb a2.lt)) (sys_kept s2 hbW.size fun k hk _ => hbW.block k hk) (b02.trans (hbW.mono b02.size)) w2.heap.size 1 (by rw [hW]; exact heap_alloc_new w2 _)
  have HDIR := hide hdir
  clear hdir a2 s2 b2 b1 b02 h1 HOP
  go_wp2_with fail
  rw [← hW]
  refine (unhide HDIR).mono ?_
  rintro e w3 ⟨rfl, g3⟩
  have G3 := hide g3
  clear g3 HDIR hW hbW
  go_wp2_with fail
  go_loopw [9] (fun v wr => ∃ k : Nat, k ≤ m + 1 ∧ v = .int .i64 k ∧ ∀ cf, GAt w bb bl bd bs cf 0 wr) (fun v _ => m + 1 - (intOf v).toNat)
  case atStart => exact ⟨0, Nat.zero_le _, rfl, unhide G3⟩
  case round =>
    obtain ⟨k, hk, rfl, gk⟩ := hrel
    have GK := hide gk
    clear gk
    go_wp2_with fail
    refine (pick_any _ rounds 3 m0 m1 (by omega) (by omega)).mono ?_
    rintro e w4 ⟨rfl, hw4⟩
    have hw4 := hw4.symm
    subst hw4
    rw [unhide HM]
    by_cases hlt : k < m + 1
    · have hlt' : (k : Int) < 1 + (m : Int) := by omega
      go_wp2_with fail
      go_loopw [10] (fun v wr => ∃ i : Nat, i ≤ 59 ∧ v = .int .i64 i ∧ GAt w bb bl bd bs (cfOf k xs) i wr) (fun v _ => 59 - (intOf v).toNat)
      case atStart => exact ⟨0, Nat.zero_le _, rfl, (unhide GK) _⟩
      case round =>
        obtain ⟨i, hi, rfl, gi⟩ := hrel
        have GI := hide gi
        clear gi
        by_cases hi5 : i < 59
        · have hi5' : (i : Int) < 59 := by omega
          go_upto_if 57 with fail
          go_cut [11] (fun v wc => wc = wr ∧ v = .int .i64 (cfOf k xs i : Int))
          case first =>
            by_cases hx : i < xs.length
            · obtain ⟨x, hx0⟩ : ∃ x, xs[i]? = some x := ⟨xs[i], List.getElem?_eq_getElem hx⟩
              obtain ⟨q0, q1⟩ := pick_range x 1048576 (by omega)
              have hcf := cfOf_some (k := k) hx0
              obtain ⟨xb, xo, rfl, hxc⟩ := (unhide HAC) i x hx0
              obtain ⟨x0, x1⟩ := (unhide HAB) x (List.mem_of_getElem? hx0)
              have lxb := World.block_lt_of_cell? w _ hxc
              have hxc2 := ((unhide GI).low.cell (p := ⟨xb, xo + i, none⟩) lxb).trans hxc
              have HF := hide hcf
              have hx' : (i : Int) < (xs.length : Int) := by omega
              clear hcf hx0 hxc
              go_wp2_with fail
              refine (pick_any _ x 1048576 x0 x1 (by omega) (by omega)).mono ?_
              rintro e w5 ⟨rfl, hw5⟩
              have hw5 := hw5.symm
              subst hw5
              go_wp2_with fail
              go_meet
              case rel => exact ⟨rfl, by rw [← unhide HF]⟩
            · have hx' : ¬ (i : Int) < (xs.length : Int) := by omega
              go_wp2_with fail
              go_meet
              case rel => exact ⟨rfl, by rw [← cfOf_none hx]⟩
          case rest =>
            obtain ⟨hwr, rfl⟩ := hcut
            have hwr := hwr.symm
            subst hwr
            have hfl := full_any wr i (cfOf k xs i) hi5 (cfOf_le (by omega) xs i)
            obtain ⟨n, hn⟩ : ∃ n, n = fullN i (cfOf k xs i) := ⟨_, rfl⟩
            rw [← hn] at hfl
            unfold ndV at hfl
            have HFL := hide hfl
            have HN := hide hn
            clear hfl hn
            go_wp2_with fail
            refine (unhide HFL).mono ?_
            rintro e w6 ⟨rfl, b6⟩
            obtain ⟨W6, hW6⟩ : ∃ W6, W6 = w6.alloc (.cells #[.bool false, .string n.path, .int .i64 n.kind, .int .i64 n.mode, .int .i64 n.tag, .string n.data] 47) := ⟨_, rfl⟩
            have hb6 : Below w6.heap.size w6 W6 := by rw [hW6]; exact (Below.refl _ w6).alloc (Nat.le_refl _) _
            have hput := put_law w W6 bb bl bd bs hbb (cfOf k xs) i hi5 w6.heap.size 1 (((unhide GI).below b6).below hb6) (by rw [hW6, ← unhide HN]; exact heap_alloc_new w6 _)
            have HPUT := hide hput
            clear hput
            go_wp2_with fail
            rw [← hW6]
            refine (unhide HPUT).mono ?_
            rintro e w7 ⟨rfl, g7⟩
            have G7 := hide g7
            clear g7
            go_wp2_with fail
            go_roundw
            case rel => exact ⟨i + 1, by omega, by go_num, unhide G7⟩
            case measure => simp [intOf]; omega
        · have hi5' : ¬ ((i : Int) < 59) := by omega
          have hi59 : i = 59 := by omega
          subst hi59
          obtain ⟨W8, hW8⟩ : ∃ W8, W8 = wr.alloc (.cells #[.bool false, .string ⟨#[109, 111, 114, 101]⟩, .int .i64 1, .int .i64 0, .int .i64 0, .string ⟨#[]⟩] 47) := ⟨_, rfl⟩
          have hb8 : Below wr.heap.size wr W8 := by rw [hW8]; exact (Below.refl _ wr).alloc (Nat.le_refl _) _
          have hmore := more_law w W8 bb bl bd bs hbb (cfOf k xs) wr.heap.size 1 ((unhide GI).below hb8) (by rw [hW8]; exact heap_alloc_new wr _)
          have HMORE := hide hmore
          clear hmore
          go_wp2_with fail
          rw [← hW8]
          refine (unhide HMORE).mono ?_
          rintro e w9 ⟨rfl, g9⟩
          have G9 := hide g9
          clear g9 hW8 hb8 GI
          go_wp2_with fail
          go_loopw [14] (fun v wr => ∃ i : Nat, i ≤ 59 ∧ v = .int .i64 i ∧ GAt w bb bl bd bs (cfOf k xs) 59 wr) (fun v _ => 59 - (intOf v).toNat)
          case atStart => exact ⟨0, Nat.zero_le _, rfl, unhide G9⟩
          case round =>
            obtain ⟨i, hi, rfl, gi⟩ := hrel
            have GI := hide gi
            clear gi
            by_cases hi5 : i < 59
            · have hi5' : (i : Int) < 59 := by omega
              go_upto_if 87 with fail
              go_cut [15] (fun v wc => wc = wr ∧ v = .int .i64 (cfOf k xs i : Int))
              case first =>
                by_cases hx : i < xs.length
                · obtain ⟨x, hx0⟩ : ∃ x, xs[i]? = some x := ⟨xs[i], List.getElem?_eq_getElem hx⟩
                  obtain ⟨q0, q1⟩ := pick_range x 1048576 (by omega)
                  have hcf := cfOf_some (k := k) hx0
                  obtain ⟨xb, xo, rfl, hxc⟩ := (unhide HAC) i x hx0
                  obtain ⟨x0, x1⟩ := (unhide HAB) x (List.mem_of_getElem? hx0)
                  have lxb := World.block_lt_of_cell? w _ hxc
                  have hxc2 := ((unhide GI).low.cell (p := ⟨xb, xo + i, none⟩) lxb).trans hxc
                  have HF := hide hcf
                  have hx' : (i : Int) < (xs.length : Int) := by omega
                  clear hcf hx0 hxc
                  go_wp2_with fail
                  refine (pick_any _ x 1048576 x0 x1 (by omega) (by omega)).mono ?_
                  rintro e w5 ⟨rfl, hw5⟩
                  have hw5 := hw5.symm
                  subst hw5
                  go_wp2_with fail
                  go_meet
                  case rel => exact ⟨rfl, by rw [← unhide HF]⟩
                · have hx' : ¬ (i : Int) < (xs.length : Int) := by omega
                  go_wp2_with fail
                  go_meet
                  case rel => exact ⟨rfl, by rw [← cfOf_none hx]⟩
              case rest =>
                obtain ⟨hwr, rfl⟩ := hcut
                have hwr := hwr.symm
                subst hwr
                obtain ⟨n, hn⟩ : ∃ n, n = fullN i (cfOf k xs i) := ⟨_, rfl⟩
                have hfl := fun wq => full_any wq i (cfOf k xs i) hi5 (cfOf_le (by omega) xs i)
                rw [← hn] at hfl
                unfold ndV at hfl
                have hpath : n.path = fullP i := by rw [hn]; rfl
                have HRD := hide fun wq (gq : GAt w bb bl bd bs (cfOf k xs) 59 wq) => (show Calls Tryd.prog 17 #[.pointer (some ⟨bb, 0, none⟩), .string n.path] wq fun e w' => e = .returned (.tuple #[.agg #[.string n.path, .int .i64 n.kind, .int .i64 n.mode, .int .i64 n.tag, .string n.data], .int .i64 0]) ∧ GAt w bb bl bd bs (cfOf k xs) 59 w' by
                  have := read_law w wq bb bl bd bs (cfOf k xs) 59 i hi5 (Nat.le_refl _) gq
                  rw [← hn] at this
                  unfold ndV at this
                  rw [hpath]
                  rw [hpath] at this
                  exact this)
                have HFL := hide hfl
                have hfd : ∀ wq : World, (Instr.field 45 (.agg #[.string n.path, .int .i64 n.kind, .int .i64 n.mode, .int .i64 n.tag, .string n.data]) 0).run Tryd.prog wq = .ok (.string n.path) wq := fun _ => by kernel_rfl
                clear hfl hn hpath
                go_wp2_with fail
                refine ((unhide HFL) wr).mono ?_
                rintro e w6 ⟨rfl, b6⟩
                have G6 := hide ((unhide GI).below b6)
                go_wp2_with fail
                refine ((unhide HRD) w6 (unhide G6)).mono ?_
                rintro e w7 ⟨rfl, g7⟩
                obtain ⟨W10, hW10⟩ : ∃ W10, W10 = w7.alloc (.cells #[.string n.path, .int .i64 n.kind, .int .i64 n.mode, .int .i64 n.tag, .string n.data] 45) := ⟨_, rfl⟩
                have b10 : W10.heap[w7.heap.size]? = some (.cells #[.string n.path, .int .i64 n.kind, .int .i64 n.mode, .int .i64 n.tag, .string n.data] 45 (0, 0)) := by rw [hW10]; exact heap_alloc_new w7 _
                have g10 : GAt w bb bl bd bs (cfOf k xs) 59 W10.drew := g7.below (by rw [hW10]; exact ((Below.refl _ w7).alloc (Nat.le_refl _) _).drew)
                have G10 := hide g10
                have hlt10 : w7.heap.size < W10.drew.heap.size := by rw [hW10]; show w7.heap.size < (w7.alloc _).heap.size; simp
                have HC10 := hide fun (X : World) (hX : X.heap[w7.heap.size]? = W10.heap[w7.heap.size]?) => five_cells (hX.trans b10)
                clear g7 g10 b10
                go_wp2_with fail
                rw [← hW10]
                clear hW10
                go_cut [112] (fun v wx => v = .bool false ∧ GAt w bb bl bd bs (cfOf k xs) 59 wx)
                case first =>
                  obtain ⟨r0, r1, r2, r3, r4⟩ := (unhide HC10) W10.drew rfl
                  go_region_with (go_at_call 16; refine ((unhide HFL) _).mono ?_; rintro e w11 ⟨rfl, b11⟩; obtain ⟨t0, t1, t2, t3, t4⟩ := (unhide HC10) w11 (b11.block _ hlt10); have G11 := hide ((unhide G10).below b11))
                  all_goals
                    go_wp2_with fail
                    go_meet
                    case rel => exact ⟨by simp, unhide G11⟩
                case rest =>
                  obtain ⟨rfl, g12⟩ := hcut
                  have G12 := hide g12
                  clear g12
                  go_wp2_with fail
                  go_roundw
                  case rel => exact ⟨i + 1, by omega, by go_num, unhide G12⟩
                  case measure => simp [intOf]; omega
            · have hi5' : ¬ ((i : Int) < 59) := by omega
              have HN1 := hide fun wq (gq : GAt w bb bl bd bs (cfOf k xs) 59 wq) => nodes_law w wq bb bl bd bs (cfOf k xs) 59 gq
              have HN2 := hide fun wq (gq : GAt w bb bl bd bs (cfOf k xs) 0 wq) => nodes_law w wq bb bl bd bs (cfOf k xs) 0 gq
              go_wp2_with fail
              refine ((unhide HN1) wr (unhide GI)).mono ?_
              rintro e w12 ⟨⟨ao1, cap1, rfl⟩, g12⟩
              obtain ⟨W13, hW13⟩ : ∃ W13, W13 = w12.alloc (.cells #[.bool true, .string ⟨#[100]⟩, .int .i64 0, .int .i64 0, .int .i64 0, .string ⟨#[]⟩, .bool false, .string ⟨#[100]⟩, .int .i64 2, .int .i64 0, .int .i64 0, .string ⟨#[]⟩] 47) := ⟨_, rfl⟩
              have hb13 : Below w12.heap.size w12 W13 := by rw [hW13]; exact (Below.refl _ w12).alloc (Nat.le_refl _) _
              have hgone := gone_law w W13 bb bl bd bs hbb (cfOf k xs) w12.heap.size 2 (g12.below hb13) (by rw [hW13]; exact heap_alloc_new w12 _)
              have HGONE := hide hgone
              clear hgone g12
              go_wp2_with fail
              rw [← hW13]
              refine (unhide HGONE).mono ?_
              rintro e w14 ⟨rfl, g14⟩
              have G14 := hide g14
              clear g14 hW13 hb13
              go_wp2_with fail
              refine ((unhide HN2) w14 ((unhide G14) _)).mono ?_
              rintro e w15 ⟨⟨ao2, cap2, rfl⟩, g15⟩
              have G15 := hide g15
              clear g15
              go_wp2_with fail
              go_roundw
              case rel => exact ⟨k + 1, by omega, by go_num, (unhide G15).zero⟩
              case measure => simp [intOf]; omega
    · have hlt' : ¬ ((k : Int) < 1 + (m : Int)) := by omega
      go_wp2_with fail
      go_ret
      exact ⟨rfl, ((unhide GK) fun _ => 0).low⟩
end Go.Proofs.YtcbindgpbeaebaaDoor
